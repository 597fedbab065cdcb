/- The reference's sorting by insertion: pure. -/
import Derived.Test.YtdlipponajilbaaClA
import Derived.Test.YtdlipponajilbaaClC2
import Derived.Test.YtdlipponajilbaaRRms
import Derived.Deep.CutBlock
import Derived.Test.YtdlipponajilbaaClH
import Derived.Test.YtdlipponajilbaaClG
import Derived.Test.YtdlipponajilbaaClZa
namespace Go.Proofs.Ytdlipponajilbaa
open Go Go.Sort
set_option linter.unusedVariables false
theorem mg_ins {α : Type} {lt : α → α → Bool} {c : α} : ∀ (A : List α) {B : List α}, (∀ b ∈ B, lt c b = true) → (∀ a ∈ A, lt c a = false) → St.mg lt (A ++ B) [c] = A ++ c :: B
  | [], [], _, _ => by rw [List.nil_append, St.mg_nilL]; rfl
  | [], b :: B, h1, _ => by
    rw [List.nil_append, St.mg_lt (h1 b (List.mem_cons_self ..)), St.mg_nilR]; rfl
  | a :: A, B, h1, h2 => by
    rw [List.cons_append, St.mg_ge (h2 a (List.mem_cons_self ..)), mg_ins A h1 (fun x hx => h2 x (List.mem_cons_of_mem _ hx))]; rfl
/-- behind the place found: whoever stands behind is worse, whoever ahead is not -/
theorem ins_at {out : List Cn} {c : Cn} {i : Nat} (hs : St.So ltc out) (hi : i ≤ out.length) (h1 : ∀ b ∈ out.drop i, ltc c b = true) (h2 : i = 0 ∨ ∃ a, out[i - 1]? = some a ∧ ltc c a = false) : St.mg ltc out [c] = out.take i ++ c :: out.drop i := by
  have h3 : ∀ a ∈ out.take i, ltc c a = false := by
    intro x hx
    rcases h2 with rfl | ⟨a, ha, hca⟩
    · simp at hx
    · obtain ⟨j, hj, rfl⟩ := List.mem_iff_getElem.1 hx
      rw [List.length_take] at hj
      have hjo : j < out.length := by omega
      have hio : i - 1 < out.length := by omega
      rw [List.getElem_take]
      rw [List.getElem?_eq_getElem hio] at ha
      injection ha with ha
      by_cases e : j = i - 1
      · subst e; rw [ha]; exact hca
      · have hp := List.pairwise_iff_getElem.1 hs j (i - 1) hjo hio (by omega)
        rw [ha] at hp
        exact ltc_swo.ntrans _ _ _ hca hp
  have := mg_ins (lt := ltc) (c := c) (out.take i) (B := out.drop i) h1 h3
  rwa [List.take_append_drop] at this
theorem drop_more {out : List Cn} {i : Nat} {a c : Cn} (ha : out[i]? = some a) (hc : ltc c a = true) (h1 : ∀ b ∈ out.drop (i + 1), ltc c b = true) : ∀ b ∈ out.drop i, ltc c b = true := by
  have hi : i < out.length := by
    rcases Nat.lt_or_ge i out.length with h | h
    · exact h
    · rw [List.getElem?_eq_none h] at ha; cases ha
  intro b hb
  rw [List.drop_eq_getElem_cons hi] at hb
  rcases List.mem_cons.1 hb with rfl | hb
  · rw [List.getElem?_eq_getElem hi] at ha
    injection ha with ha
    rw [ha]; exact hc
  · exact h1 b hb
theorem st_more {l : List Cn} {k : Nat} {c : Cn} (h : l[k]? = some c) : St.st ltc (l.take (k + 1)) = St.mg ltc (St.st ltc (l.take k)) [c] := by
  have hk : k < l.length := by
    rcases Nat.lt_or_ge k l.length with h' | h'
    · exact h'
    · rw [List.getElem?_eq_none h'] at h; cases h
  rw [List.getElem?_eq_getElem hk] at h
  injection h with h
  rw [List.take_succ_eq_append_getElem hk, St.st_snoc, h]
end Go.Proofs.Ytdlipponajilbaa
/- The reference: better. -/
namespace Go.Proofs.Ytdlipponajilbaa
open Go Go.RowKit Go.Sort
set_option linter.unusedVariables false
set_option maxRecDepth 20000 in
set_option maxHeartbeats 2000000 in
theorem rbetter_any (a b : Cn) (w : World) (oka : okC a) (okb : okC b) : Calls Try.prog 59 #[.agg (cnL a).toArray, .agg (cnL b).toArray] w fun e w' => e = .returned (.bool (ltc a b)) ∧ Below w.heap.size w w' := by
  obtain ⟨MA, hMA⟩ : ∃ M, mer a = M := ⟨_, rfl⟩
  obtain ⟨MB, hMB⟩ : ∃ M, mer b = M := ⟨_, rfl⟩
  obtain ⟨IA, hIA⟩ : ∃ M, a.id = M := ⟨_, rfl⟩
  obtain ⟨IB, hIB⟩ : ∃ M, b.id = M := ⟨_, rfl⟩
  have CA : Hid (∀ u, Calls Try.prog 78 #[.agg (cnL a).toArray] u fun e w' => e = .returned (.int .i64 MA) ∧ Below u.heap.size u w') := fun u => by rw [← hMA]; exact rmerit_any a u oka
  have CB : Hid (∀ u, Calls Try.prog 78 #[.agg (cnL b).toArray] u fun e w' => e = .returned (.int .i64 MB) ∧ Below u.heap.size u w') := fun u => by rw [← hMB]; exact rmerit_any b u okb
  have HE : Hid (ltc a b = decide (MA < MB ∨ (MA = MB ∧ IA < IB))) := by show _ = _; unfold ltc; rw [hMA, hMB, hIA, hIB]
  have HI : Hid ((cnL a)[0]? = some (.int .i64 IA) ∧ (cnL b)[0]? = some (.int .i64 IB)) := ⟨by rw [← hIA]; rfl, by rw [← hIB]; rfl⟩
  clear hMA hMB hIA hIB oka okb
  go_enter Try.func59, Try.ntmps59
  refine post_hid fun Q hQ => ?_
  go_upto_region 1 with (first
    | (refine step_boxL (by rfl) 27 _ rfl (cnL a).toArray (by rfl) (fun u => by rfl) ?_; intro W1 g1 H1)
    | (refine step_boxL (by rfl) 27 _ rfl (cnL b).toArray (by rfl) (fun u => by rfl) ?_; intro W2 g2 H2))
  have HW : Hid (Bk g1 W2 (cnL a).toArray 27 ∧ Bk g2 W2 (cnL b).toArray 27 ∧ Below w.heap.size w W2) := ⟨H2.out.other H1.out.bk, H2.out.bk, below_thru H1.out.be H2.out.be⟩
  clear H1 H2
  have fin : Hid (∀ z u, Below W2.heap.size W2 u → z = ltc a b → (Ending.returned (.bool z) = .returned (.bool (ltc a b)) ∧ Below w.heap.size w u)) := fun z u hu hz => ⟨by rw [hz], below_thru HW.out.2.2 hu⟩
  rcases Int.lt_trichotomy MA MB with h | h | h
  rotate_left 1
  · by_cases hid : IA < IB
    all_goals
      have h1 : decide (MA < MB) = false := by simp; omega
      have h2 : (MA == MB) = true := by simpa using h
      first
        | (have h3 : decide (IA < IB) = true := by simpa using hid)
        | (have h3 : decide (IA < IB) = false := by simpa using hid)
      have hz : Hid (decide (IA < IB) = ltc a b) := by show _ = _; rw [HE.out]; by_cases q : IA < IB <;> simp [h, q]
      clear h hid
      refine wp_region_grown (by kernel_rfl) (by kernel_rfl) ?_
      intro C hC hG
      have al1 : Hid (∀ u, C u → Bk g1 u (cnL a).toArray 27) := fun u hu => HW.out.1.kept ((hC u hu).block _ HW.out.1.lt)
      have al2 : Hid (∀ u, C u → Bk g2 u (cnL b).toArray 27) := fun u hu => HW.out.2.1.kept ((hC u hu).block _ HW.out.2.1.lt)
      have a1 : Hid (∀ u, C u → u.cell? ⟨g1, 0, none⟩ = some (.int .i64 IA)) := fun u hu => by rw [(al1.out u hu).cell 0, List.getElem?_toArray]; exact HI.out.1
      have a2 : Hid (∀ u, C u → u.cell? ⟨g2, 0, none⟩ = some (.int .i64 IB)) := fun u hu => by rw [(al2.out u hu).cell 0, List.getElem?_toArray]; exact HI.out.2
      have Z1 : Hid (∀ u, C u → Calls Try.prog 78 #[.agg (cnL a).toArray] u fun e w' => e = .returned (.int .i64 MA) ∧ C w') := fun u hu => (CA.out u).mono fun e w' ⟨h1, h2⟩ => ⟨h1, hG u w' hu h2⟩
      have Z2 : Hid (∀ u, C u → Calls Try.prog 78 #[.agg (cnL b).toArray] u fun e w' => e = .returned (.int .i64 MB) ∧ C w') := fun u hu => (CB.out u).mono fun e w' ⟨h1, h2⟩ => ⟨h1, hG u w' hu h2⟩
      refine QW.out ?_
      repeat (first
        | (refine qa_ldW (by rfl) 27 _ rfl ⟨g1, 0, none⟩ (by rfl) (cnL a) _ Try.underlying27 rfl (by kernel_rfl) (fun u hu => cells_of (al1.out u hu)) ?_; try go_simp)
        | (refine qa_ldW (by rfl) 27 _ rfl ⟨g2, 0, none⟩ (by rfl) (cnL b) _ Try.underlying27 rfl (by kernel_rfl) (fun u hu => cells_of (al2.out u hu)) ?_; try go_simp)
        | (refine qa_valW (by rfl) ?_; apply Exists.intro; refine ⟨fun u hu => ?_, ?_⟩; ((have e2 := a1.out u hu; have e10 := a2.out u hu); go_simp; exact rfl); try go_simp)
        | (refine qa_callW (by rfl) 78 _ _ ?_ (fun u hu => Z1.out u hu) ?_; (focus (intro u hu; go_simp; first | done | exact rfl)); try go_simp)
        | (refine qa_callW (by rfl) 78 _ _ ?_ (fun u hu => Z2.out u hu) ?_; (focus (intro u hu; go_simp; first | done | exact rfl)); try go_simp)
        | (refine qw_step (fun K hK => ?_); go_simp; refine hK _ ?_; clear hK K))
      refine qw_nil ?_
      intro u hu
      rw [h3] at hz
      have HF : Hid (Ending.returned (.bool _) = .returned (.bool (ltc a b)) ∧ Below w.heap.size w u) := fin.out _ u hu hz.out
      clear al1 al2 a1 a2 Z1 Z2 hC hG hu HI CA CB h1 h2 h3 hz fin HW HE
      go_wp2_with fail
      rw [hQ.out]
      go_ret
      exact HF.out
  all_goals
    first
      | (have h1 : decide (MA < MB) = true := decide_eq_true (by omega))
      | (have h1 : decide (MA < MB) = false := decide_eq_false (by omega); have h2 : (MA == MB) = false := (by simp; omega))
    have hz : Hid (decide (MA < MB) = ltc a b) := by show _ = _; rw [HE.out]; congr 1; apply propext; constructor <;> intro q <;> omega
    clear h
    refine wp_region_grown (by kernel_rfl) (by kernel_rfl) ?_
    intro C hC hG
    have al1 : Hid (∀ u, C u → Bk g1 u (cnL a).toArray 27) := fun u hu => HW.out.1.kept ((hC u hu).block _ HW.out.1.lt)
    have al2 : Hid (∀ u, C u → Bk g2 u (cnL b).toArray 27) := fun u hu => HW.out.2.1.kept ((hC u hu).block _ HW.out.2.1.lt)
    have Z1 : Hid (∀ u, C u → Calls Try.prog 78 #[.agg (cnL a).toArray] u fun e w' => e = .returned (.int .i64 MA) ∧ C w') := fun u hu => (CA.out u).mono fun e w' ⟨h1, h2⟩ => ⟨h1, hG u w' hu h2⟩
    have Z2 : Hid (∀ u, C u → Calls Try.prog 78 #[.agg (cnL b).toArray] u fun e w' => e = .returned (.int .i64 MB) ∧ C w') := fun u hu => (CB.out u).mono fun e w' ⟨h1, h2⟩ => ⟨h1, hG u w' hu h2⟩
    refine QW.out ?_
    repeat (first
      | (refine qa_ldW (by rfl) 27 _ rfl ⟨g1, 0, none⟩ (by rfl) (cnL a) _ Try.underlying27 rfl (by kernel_rfl) (fun u hu => cells_of (al1.out u hu)) ?_; try go_simp)
      | (refine qa_ldW (by rfl) 27 _ rfl ⟨g2, 0, none⟩ (by rfl) (cnL b) _ Try.underlying27 rfl (by kernel_rfl) (fun u hu => cells_of (al2.out u hu)) ?_; try go_simp)
      | (refine qa_valW (by rfl) ?_; apply Exists.intro; refine ⟨fun u hu => ?_, ?_⟩; (go_simp; exact rfl); try go_simp)
      | (refine qa_callW (by rfl) 78 _ _ ?_ (fun u hu => Z1.out u hu) ?_; (focus (intro u hu; go_simp; first | done | exact rfl)); try go_simp)
      | (refine qa_callW (by rfl) 78 _ _ ?_ (fun u hu => Z2.out u hu) ?_; (focus (intro u hu; go_simp; first | done | exact rfl)); try go_simp)
      | (refine qw_step (fun K hK => ?_); go_simp; refine hK _ ?_; clear hK K))
    refine qw_nil ?_
    intro u hu
    rw [h1] at hz
    have HF : Hid (Ending.returned (.bool _) = .returned (.bool (ltc a b)) ∧ Below w.heap.size w u) := fin.out _ u hu hz.out
    clear al1 al2 Z1 Z2 hC hG hu HI CA CB hz fin HW HE
    go_wp2_with fail
    rw [hQ.out]
    go_ret
    exact HF.out
end Go.Proofs.Ytdlipponajilbaa
/- The reference: rows of spans, the select jitter of a place. -/
namespace Go.Proofs.Ytdlipponajilbaa
open Go Go.RowKit Go.Sort
set_option linter.unusedVariables false
def zL (z : Int) : List Value := [.int .i64 z]
/-- a row of spans that the call has made -/
def OS (w : World) (B : Nat) (v : Value) (zs : List Int) : Prop := OR w B 25 1 v (zs.map zL)
theorem os_fresh (w : World) (B : Nat) (hB : B ≤ w.heap.size) : OS (w.alloc (.cells #[] 25)) B (.slice (some ⟨w.heap.size, 0, none⟩) 0 0) [] := OR.fresh w B _ 1 hB
theorem OS.rs {w : World} {B : Nat} {v : Value} {zs : List Int} (h : OS w B v zs) : ∃ ao cap, v = .slice ao zs.length cap ∧ Rs w ao zs := by
  have hr := h.rk
  obtain ⟨ao, cap, h1, h2, h3⟩ := hr
  rw [List.length_map] at h1 h2
  refine ⟨ao, cap, h1, fun k hk => ?_⟩
  obtain ⟨ad, k1, k2, k3⟩ := h3 k (by rw [List.length_map]; exact hk)
  refine ⟨ad, k1, k2, ?_⟩
  have := k3 0 (.int .i64 (zs.getD k 0)) (by rw [getD_map' zL zs k hk, List.getD_eq_getElem?_getD, List.getElem?_eq_getElem hk]; rfl)
  rw [Nat.mul_one, Nat.add_zero] at this
  exact this
theorem run_appS (w : World) (B : Nat) (v : Value) (zs : List Int) (z : Int) (hown : OS w B v zs) (hl : zs.length ≤ 1000000) (hB : B ≤ w.heap.size) :
    ∃ v' w', (Builtin.append_ #[64, 64] 64 #[v, .slice (some ⟨w.heap.size, 0, none⟩) 1 1]).run Try.prog (w.alloc (.cells #[.int .i64 z] 25)) = .ok v' w' ∧ OS w' B v' (zs ++ [z]) ∧ Below B w w' ∧ ∀ q, q < w.heap.size → v.ownBlock ≠ some q → w'.heap[q]? = w.heap[q]? := by
  have hz : (w.alloc (.cells #[.int .i64 z] 25)).heap.size = w.heap.size + 1 := by simp
  have hx : Rk (w.alloc (.cells #[.int .i64 z] 25)).heap.size (w.alloc (.cells #[.int .i64 z] 25)) 1 (.slice (some ⟨w.heap.size, 0, none⟩) 1 1) ([z].map zL) := by
    refine ⟨some ⟨w.heap.size, 0, none⟩, 1, rfl, by simp, fun i hi => ⟨_, rfl, by simp, fun j u hu => ?_⟩⟩
    have hi0 : i = 0 := by simpa using hi
    subst hi0
    have := cells_of (l := zL z) (Bk.new w (zL z).toArray 25) j u hu
    show (w.alloc (.cells (zL z).toArray 25)).cell? _ = _
    simpa using this
  obtain ⟨v', w', h1, h2, h3, h4⟩ := run_appk tiS 64 _ B _ v _ (zs.map zL) ([z].map zL) (OR.alloc hown _) hx (fun n c e => by injection e with e; cases e) (fun r hr => by obtain ⟨s, _, rfl⟩ := List.mem_map.1 hr; rfl) (fun r hr u hu => by obtain ⟨s, _, rfl⟩ := List.mem_map.1 hr; simp [zL] at hu; rw [hu]; rfl) (by rw [List.length_map, List.length_map]; unfold maxLen; simp; omega) (by rw [List.length_map, List.length_map]; simp; omega) (by omega)
  refine ⟨v', w', h1, by unfold OS; rw [List.map_append]; exact h2, ((Below.refl B w).alloc hB _).grown h3 (by omega) (fun k hk => ?_), fun q hq hvq => ?_⟩
  rotate_left
  · rw [h3.block q (by omega) (fun e => hvq e.symm)]
    exact ((Below.refl w.heap.size w).alloc (Nat.le_refl _) _).block q hq
  rcases hown.row.2 with ⟨e1, _⟩ | ⟨g, cap, cur, e1, e2, _⟩
  · rw [e1] at hk; simp [Value.ownBlock] at hk
  · rw [e1] at hk; simp [Value.ownBlock] at hk; omega
theorem step_appS {w w' : World} {ops : Array Oper} {o : Oper} {a : Act} {K : Act → World → Prop} {Q : Exit → Act → World → Prop} {E : Prop} (hgd : o.guard = none) (s x : Operand)
    (ho : o.op = .call { callee := .builtin .append, args := #[s, x], argTypes := #[64, 64] }) (hty : o.type = 64) (v xv v' : Value) (hs : a.eval s = v) (hx : a.eval x = xv)
    (hr : (Builtin.append_ #[64, 64] 64 #[v, xv]).run Try.prog w = .ok v' w') (h : K (a.put o.dst v') w') :
    if Region.wanted o (yielded ops a.tmps) = true then Oper.wp Try.prog o a w K Q else E := by
  have hw : Region.wanted o (yielded ops a.tmps) = true := by simp [Region.wanted, hgd]
  rw [if_pos hw]
  unfold Oper.wp execOp
  simp only [ho, hty, resolve, invoke, builtin, Sem.run_bind, Sem.run_pure, Result.andThen_ok, List.map_toArray, List.map_cons, List.map_nil, hs, hx, hr]
  exact h

/-- the others' differences among the first k -/
def dgK (l : List Cn) (at' k : Nat) : List Int := ((l.take k).eraseIdx at').map fun c => Fx.cl 4611686018427387904 ((l.getD at' zCn).o - c.o)
theorem dgK_zero (l : List Cn) (a : Nat) : dgK l a 0 = [] := by unfold dgK; simp
theorem dgK_all (l : List Cn) (a k : Nat) (hk : l.length ≤ k) : dgK l a k = dfC l a := by unfold dgK dfC; rw [List.take_of_length_le hk]
theorem dgK_same {l : List Cn} {a : Nat} (ha : a < l.length) : dgK l a (a + 1) = dgK l a a := by
  unfold dgK
  congr 1
  rw [List.take_succ_eq_append_getElem ha, List.eraseIdx_append_of_length_le (by rw [List.length_take]; omega), List.length_take, Nat.min_eq_left (by omega), Nat.sub_self, List.eraseIdx_cons_zero, List.append_nil, List.eraseIdx_of_length_le (by rw [List.length_take]; omega)]
theorem dgK_next {l : List Cn} {a k : Nat} {c : Cn} (hk : l[k]? = some c) (ha : k ≠ a) : dgK l a (k + 1) = dgK l a k ++ [Fx.cl 4611686018427387904 ((l.getD a zCn).o - c.o)] := by
  have hkl : k < l.length := by
    rcases Nat.lt_or_ge k l.length with h | h
    · exact h
    · rw [List.getElem?_eq_none h] at hk; cases hk
  rw [List.getElem?_eq_getElem hkl] at hk
  injection hk with hk
  unfold dgK
  rw [List.take_succ_eq_append_getElem hkl, hk]
  rcases Nat.lt_or_ge a k with h | h
  · rw [List.eraseIdx_append_of_lt_length (by rw [List.length_take]; omega), List.map_append]; rfl
  · rw [List.eraseIdx_append_of_length_le (by rw [List.length_take]; omega), List.length_take, Nat.min_eq_left (by omega), List.eraseIdx_of_length_le (l := [c]) (by simp; omega), List.eraseIdx_of_length_le (by rw [List.length_take]; omega), List.map_append]; rfl
theorem dgK_len (l : List Cn) (a k : Nat) : (dgK l a k).length ≤ k := by
  unfold dgK
  rw [List.length_map]
  have := List.length_eraseIdx_le (l.take k) a
  rw [List.length_take] at this
  omega
set_option maxRecDepth 20000 in
set_option maxHeartbeats 4000000 in
theorem rjitter_any (v : Value) (l : List Cn) (at' : Nat) (w : World) (N : Nat) (h : Rk N w 7 v (l.map cnL)) (hN : N ≤ w.heap.size) (hl : l.length ≤ 1000) (ok : ∀ c ∈ l, okC c) (hat : at' < l.length) : Calls Try.prog 31 #[v, .int .i64 (at' : Int)] w fun e w' => e = .returned (.int .i64 (sj l at')) ∧ Below w.heap.size w w' := by
  obtain ⟨ao, cap, hx, hcap, hr⟩ := cands_read h
  obtain ⟨n, hn⟩ : ∃ n, l.length = n := ⟨_, rfl⟩
  rw [hn] at hx hl hat
  obtain ⟨ad, had, hadN, hjunk⟩ := hr w (fun _ _ => rfl) at' _ (List.getElem?_eq_getElem (by omega))
  clear hjunk
  subst had
  have HR : Hid (∀ w', Below w.heap.size w w' → ∀ (i : Nat) c, l[i]? = some c → ∀ j u, (cnL c)[j]? = some u → w'.cell? ((ad.add (i * 7)).add j) = some u) := fun w' hb i c hc => by
    obtain ⟨ad3, h1, h2, h3⟩ := hr w' (below_cells hb hN) i c hc
    rw [← Option.some.inj h1] at h3
    exact h3
  have HAD : Hid (ad.block < w.heap.size) := Nat.lt_of_lt_of_le hadN hN
  have HN : Hid (l.length = n ∧ (∀ c ∈ l, okC c)) := ⟨hn, ok⟩
  subst hx
  have hn3 : (n : Int) ≤ 1000 := by omega
  have hat' : (at' : Int) < n := by omega
  obtain ⟨J, hJ⟩ : ∃ J, sj l at' = J := ⟨_, rfl⟩
  have HJ : Hid (sj l at' = J) := hJ
  rw [hJ]
  clear h hN hl ok hr hcap hn hJ
  go_enter Try.func31, Try.ntmps31
  refine post_hid fun Q hQ => ?_
  go_wp2_with fail
  go_loopw [5, 6, 10] (fun d _ i wr => ∃ k : Nat, i = .int .i64 k ∧ (k : Int) ≤ n ∧ Hid (OS wr w.heap.size d (dgK l at' k) ∧ Below w.heap.size w wr)) (fun _ _ i _ => n - (intOf i).toNat)
  case atStart => exact ⟨0, rfl, by omega, by rw [dgK_zero]; exact OR.nil _ _ _ _, Below.refl _ _⟩
  case round =>
    obtain ⟨k, rfl, hk, HB⟩ := hrel
    obtain ⟨dv, hdv⟩ : ∃ dv, dv = u5 := ⟨_, rfl⟩
    subst hdv
    by_cases hlt : (k : Int) < n
    · have hkl : k < l.length := by have := HN.out.1; omega
      obtain ⟨c, hc⟩ : ∃ c, l[k]? = some c := ⟨_, List.getElem?_eq_getElem hkl⟩
      have HS : Hid (∀ j u, (cnL c)[j]? = some u → wr.cell? ((ad.add (k * 7)).add j) = some u) := HR.out wr HB.out.2 k c hc
      have hix := ix_C (ao := some ad) (ad := ad) n cap k rfl hlt
      have HK : Hid (l[k]? = some c) := hc
      clear hc hkl
      go_upto_region 5 with (first
        | (refine step_ldat 27 _ rfl rfl (ad.add (k * 7)) (by rfl) (cnL c) _ Try.underlying27 rfl (by kernel_rfl) HS.out ?_)
        | (refine step_alL (by rfl) 27 rfl (cnL zCn).toArray (fun u => by kernel_rfl) ?_; intro w6 g H6)
        | (refine step_stL (by rfl) _ _ rfl g (cnL c).toArray (by rfl) (by rfl) (cnL zCn).toArray (by kernel_rfl) (by kernel_rfl) (by kernel_rfl) H6.out.bk ?_; intro w7 H7))
      have H8 : Hid (Below wr.heap.size wr w7 ∧ Bk g w7 (cnL c).toArray 27 ∧ g < w7.heap.size) := ⟨H7.out.below H6.out.be H6.out.be.size (Nat.le_of_eq H6.out.at'.symm), H7.out.bk, H7.out.bk.lt⟩
      have H9 : Hid (Below w.heap.size w w7) := below_thru HB.out.2 H8.out.1
      have HG6 : Hid (wr.heap.size ≤ g) := by have := H6.out.at'; show wr.heap.size ≤ g; omega
      clear H6 H7 HS hix
      by_cases hka : (k : Int) = at'
      · have hka' : k = at' := by omega
        have H10 : Hid (∀ d, OS wr w.heap.size d (dgK l at' k) → OS w7 w.heap.size d (dgK l at' (k + 1)) ∧ Below w.heap.size w w7) := fun d hd => by
          refine ⟨?_, H9.out⟩
          subst hka'
          rw [dgK_same (by have := HN.out.1; omega)]
          exact OR.below hd H8.out.1 (Nat.le_refl _)
        have HF : Hid _ := H10.out _ HB.out.1
        have hkb : ((k : Int) != (at' : Int)) = false := by rw [hka]; exact bne_self_eq_false _
        clear H10 H8 H9 HB HK hka' hka
        go_wp2_with fail
        go_roundw
        case rel => exact ⟨k + 1, by go_num, by omega, HF.out⟩
        case measure => simp [intOf]; omega
      · have hka' : k ≠ at' := by omega
        obtain ⟨r, hr⟩ : ∃ r, l[at']? = some r := ⟨_, List.getElem?_eq_getElem (by have := HN.out.1; omega)⟩
        have hix2 := ix_C (ao := some ad) (ad := ad) n cap at' rfl hat'
        have hrg : l.getD at' zCn = r := by rw [List.getD_eq_getElem?_getD, hr]; rfl
        obtain ⟨p, hp⟩ : ∃ p, r.o = p := ⟨_, rfl⟩
        obtain ⟨q, hq⟩ : ∃ q, c.o = q := ⟨_, rfl⟩
        obtain ⟨z, hz⟩ : ∃ z, Fx.cl 4611686018427387904 (p - q) = z := ⟨_, rfl⟩
        have HSb : Hid (∀ u, Calls Try.prog 30 #[.int .i64 p, .int .i64 q] u fun e w' => e = .returned (.int .i64 z) ∧ Below u.heap.size u w') := fun u => by
          have o1 := (HN.out.2 r (List.mem_of_getElem? hr)).o
          have o2 := (HN.out.2 c (List.mem_of_getElem? HK.out)).o
          have := rsub_any p q u (by rw [← hp]; exact o1.1) (by rw [← hp]; exact o1.2) (by rw [← hq]; exact o2.1) (by rw [← hq]; exact o2.2)
          rw [← Int.sub_eq_add_neg, hz] at this
          exact this
        have HD : Hid (dgK l at' (k + 1) = dgK l at' k ++ [z]) := by show _ = _; rw [dgK_next HK.out hka', hrg, hp, hq, hz]
        have HA : Hid (∀ u, Below w7.heap.size w7 u → u.cell? ⟨(ad.add (at' * 7)).block, (ad.add (at' * 7)).off + 1, none⟩ = some (.int .i64 p) ∧ u.cell? ⟨g, 1, none⟩ = some (.int .i64 q)) := fun u hb => by
          have h1 := HR.out u (below_thru H9.out hb) at' r hr 1 (.int .i64 p) (by rw [← hp]; rfl)
          refine ⟨by simpa [Addr.add] using h1, ?_⟩
          have h2 := (H8.out.2.1.kept (hb.block _ H8.out.2.2)).cell 1
          rw [h2, ← hq]; rfl
        have HO : Hid (∀ d, OS wr w.heap.size d (dgK l at' k) → OS w7 w.heap.size d (dgK l at' k)) := fun d hd => OR.below hd H8.out.1 (Nat.le_refl _)
        have HO1 : Hid _ := HO.out _ HB.out.1
        have HD2 : Hid (dv.ownBlock ≠ some g) := fun e => by have := (HB.out.1.ownlt g e).2; have := HG6.out; omega
        have HL : Hid ((dgK l at' k).length ≤ 1000000) := Nat.le_trans (dgK_len l at' k) (by omega)
        obtain ⟨ck, c0⟩ := HA.out w7 (Below.refl _ _)
        have hfa : ∀ u, Sem.run Try.prog (Instr.indexAt 22 (.slice (some ad) n cap) (.int .i64 (at' : Int))) u = .ok (.pointer (some (ad.add (at' * 7)))) u := hix2
        have hkb : ((k : Int) != (at' : Int)) = true := by rw [bne_iff_ne]; exact hka
        have HLT : Hid ((ad.add (at' * 7)).block < w.heap.size ∧ g < w7.heap.size ∧ w.heap.size ≤ w7.heap.size) := by
          refine ⟨?_, H8.out.2.2, H9.out.size⟩
          have h1 := HAD.out
          have h2 := H9.out.size
          show (ad.add (at' * 7)).block < _
          have : (ad.add (at' * 7)).block = ad.block := by unfold Addr.add; split <;> rfl
          rw [this]; omega
        clear hr hrg hp hq hz HB HO hix2 HR H8 hka' hka HAD
        go_wp2_with fail
        go_region_held3 (fun w' => w'.cell? (⟨(ad.add (at' * 7)).block, (ad.add (at' * 7)).off + 1, none⟩ : Addr) = some (.int .i64 p) ∧ w'.cell? ⟨g, 1, none⟩ = some (.int .i64 q)) (first | with_reducible exact HA.out _ ((Below.refl _ _).drew) | with_reducible exact ⟨ck, c0⟩ | with_reducible exact ⟨d0, d1⟩ | with_reducible exact ⟨e0, e1⟩ | go_keep) (first
          | (go_at_call 30; refine (HSb.out _).mono ?_; rintro e w5 ⟨rfl, hb5⟩; have HB5 : Hid (Below w7.heap.size w7 w5) := (by first | exact hb5 | exact Below.then ((Below.refl _ _).drew) hb5); have d0 := (HA.out w5 HB5.out).1; have d1 := (HA.out w5 HB5.out).2)
          | (obtain ⟨v6, w6, hr6, ho6, hb6, hq6⟩ := run_appS w5 w.heap.size dv _ z (OR.below HO1.out HB5.out (Nat.le_refl _)) HL.out (Nat.le_trans HLT.out.2.2 HB5.out.size); refine step_appS rfl _ _ rfl rfl _ _ _ (by rfl) (by rfl) hr6 ?_; have HB6 : Hid (Below w.heap.size w w6) := (below_thru H9.out HB5.out).trans hb6; have e0 := (hb6.cell (p := ⟨(ad.add (at' * 7)).block, (ad.add (at' * 7)).off + 1, none⟩) HLT.out.1).trans d0; have e1 := (World.cell?_of_block (w := w5) (w' := w6) (a := ⟨g, 1, none⟩) (hq6 g (Nat.lt_of_lt_of_le HLT.out.2.1 HB5.out.size) HD2.out)).trans d1))
        have HF : Hid (OS w6 w.heap.size v6 (dgK l at' (k + 1)) ∧ Below w.heap.size w w6) := ⟨by rw [HD.out]; exact ho6, HB6.out⟩
        clear hr6 ho6 hb6 hq6 HB6 HB5 hb5 d0 d1 e0 e1 ck c0 HO1
        go_wp2_with fail
        go_roundw
        case rel => exact ⟨k + 1, by go_num, by omega, HF.out⟩
        case measure => simp [intOf]; omega
    · have hkn : k = n := by omega
      subst hkn
      rw [dgK_all l at' k (by rw [HN.out.1]; exact Nat.le_refl _)] at HB
      have HB' : Hid (OS wr w.heap.size _ (dfC l at') ∧ Below w.heap.size w wr) := HB.out
      obtain ⟨do', dc, hdv, hrs⟩ := HB'.out.1.rs
      subst hdv
      have hl2 : (dfC l at').length ≤ k := by rw [← dgK_all l at' k (by rw [HN.out.1]; exact Nat.le_refl _)]; exact dgK_len l at' k
      have HRm : Hid (Calls Try.prog 56 #[.slice do' (dfC l at').length dc] wr fun e w' => e = .returned (.int .i64 J) ∧ Below wr.heap.size wr w') := by
        have := rRMS_any do' (dfC l at') dc wr (by omega) hrs (dfC_ok l at')
        have e : ((Sq.rms (dfC l at') : Nat) : Int) = J := HJ.out
        rw [e] at this
        exact this
      obtain ⟨dn, hdn⟩ : ∃ dn, (dfC l at').length = dn := ⟨_, rfl⟩
      rw [hdn] at HRm
      have HE : Hid (Below w.heap.size w wr) := HB'.out.2
      rw [hdn]
      clear hrs hl2 hdn HB' HB hk hlt
      go_wp2_with (go_at_call 56; refine HRm.out.mono ?_; rintro e w9 ⟨rfl, h9⟩)
      rw [hQ.out]
      go_ret
      exact ⟨rfl, below_thru HE.out h9⟩
end Go.Proofs.Ytdlipponajilbaa
/- The reference: a weight; candidates sorted. -/
namespace Go.Proofs.Ytdlipponajilbaa
open Go Go.RowKit Go.Sort
set_option linter.unusedVariables false
set_option maxRecDepth 20000 in
set_option maxHeartbeats 1000000 in
theorem rweight_any (c : Cn) (w : World) (ok : okC c) : Calls Try.prog 27 #[.agg (cnL c).toArray] w fun e w' => e = .returned (.int .i64 (wt c)) ∧ Below w.heap.size w w' := by
  obtain ⟨X, hX⟩ : ∃ X, Fx.sh c.d (-8) = X := ⟨_, rfl⟩
  have HC : Hid (∀ u, Calls Try.prog 48 #[.int .i64 c.d, .int .i64 (-8)] u fun e w' => e = .returned (.int .i64 X) ∧ Below u.heap.size u w') := fun u => by rw [← hX]; exact rshift_any c.d (-8) u ok.d.1 ok.d.2 (by decide) (by decide)
  obtain ⟨M, hM⟩ : ∃ M, max 1 X = M := ⟨_, rfl⟩
  have HW : Hid (wt c = 1099511627776 / M) := by show _ = _; unfold wt; rw [hX, ← hM]; congr 1; omega
  have hXb : -36028797018963968 ≤ X ∧ X ≤ 36028797018963968 := by
    have := ok.d
    unfold i64B at this
    rw [wt_sh] at hX
    omega
  have mx1 : ∀ u, (Builtin.max_ #[25, 25] 25 #[.int .i64 1, .int .i64 X]).run Try.prog u = .ok (.int .i64 M) u := fun u => by
    have : (Builtin.max_ #[25, 25] 25 #[.int .i64 1, .int .i64 X]).run Try.prog u = .ok (.int .i64 (if 1 < X then X else 1)) u := by simp [go_sem]; rw [Int.max_def]; split <;> split <;> omega
    rw [this, ← hM]; congr 2; show (if 1 < X then X else 1) = max 1 X; rw [Int.max_def]; split <;> split <;> omega
  obtain ⟨D, hD⟩ : ∃ D, (1099511627776 : Int) / M = D := ⟨_, rfl⟩
  have hM0 : (M == 0) = false := by simp; omega
  have hM1 : ¬ M = 0 := by omega
  have hDb : 0 ≤ D ∧ D ≤ 1099511627776 := by
    rw [← hD]
    exact ⟨Int.ediv_nonneg (by decide) (by omega), Int.ediv_le_self _ (by decide)⟩
  have e1 : Int.tdiv 1099511627776 M = D := by rw [Int.tdiv_eq_ediv_of_nonneg (by decide), hD]
  have e2 : IntKind.i64.wrap D = D := by rw [IntKind.wrap_i64]; omega
  have e3 : wrap64 D = D := by rw [← IntWalk.i64_left]; exact e2
  have HW2 : Hid (wt c = D) := by show _ = _; rw [HW.out, hD]
  rw [HW2.out]
  clear hX ok hM hD hXb HW hDb
  rw [cn_cells]
  obtain ⟨a0, a1, a2, a3, a4, a5, a6⟩ := c
  simp only at HC ⊢
  go_enter Try.func27, Try.ntmps27
  refine post_hid fun Q hQ => ?_
  have HB0 : Hid (Below w.heap.size w (w.alloc (.cells #[.int .i64 a0, .int .i64 a1, .int .i64 a2, .int .i64 a3, .int .i64 a4, .bool a5, .bool a6] 27))) := (Below.refl _ _).alloc (Nat.le_refl _) _
  go_wp2_with (go_at_call 48; refine (HC.out _).mono ?_; rintro e w2 ⟨rfl, hb⟩; have HB1 : Hid (Below w.heap.size w w2) := (below_thru HB0.out hb); clear hb)
  rw [hQ.out]
  go_ret
  exact ⟨rfl, HB1.out⟩
/-- v[:b], with what an append asks of it -/
theorem csl_take2 {N : Nat} {w : World} {ao : Option Addr} {cap n : Nat} {l : List Cn} (h : Rk N w 7 (.slice ao n cap) (l.map cnL)) (hra : Ra (.slice ao n cap)) (b : Nat) (hb : b ≤ l.length) :
    ∃ ao' cap', (∀ u, (Instr.slice 22 (.slice ao n cap) none (some (.int .i64 (b : Int))) none).run Try.prog u = .ok (.slice ao' b cap') u) ∧ Rk N w 7 (.slice ao' b cap') ((l.take b).map cnL) ∧ Ra (.slice ao' b cap') := by
  obtain ⟨ao', cap', h1, h2, h3, _⟩ := csl_take h b hb
  refine ⟨ao', cap', h1, h2, fun n' c' e => ?_⟩
  injection e with e1 e2 e3
  cases hao : ao with
  | some p => exact absurd e1 (h3 (by rw [hao]; simp))
  | none =>
    have hc := hra n cap (by rw [hao])
    obtain ⟨_, _, e0, h0⟩ := rk_form h
    injection e0 with _ e5 e6
    have hb0 : b = 0 := by omega
    have := h1 w
    rw [hao, hc, hb0] at this
    simp [Instr.slice, Instr.sliceBounds, Instr.sliceBound, asIntOf, run_underlying Try.underlying22] at this
    omega
/-- v[a:], likewise -/
theorem csl_drop2 {N : Nat} {w : World} {ao : Option Addr} {cap n : Nat} {l : List Cn} (h : Rk N w 7 (.slice ao n cap) (l.map cnL)) (hra : Ra (.slice ao n cap)) (a : Nat) (ha : a ≤ l.length) :
    ∃ ao' cap', (∀ u, (Instr.slice 22 (.slice ao n cap) (some (.int .i64 (a : Int))) none none).run Try.prog u = .ok (.slice ao' (n - a) cap') u) ∧ Rk N w 7 (.slice ao' (n - a) cap') ((l.drop a).map cnL) ∧ Ra (.slice ao' (n - a) cap') := by
  obtain ⟨ao', cap', h1, h2, h3, _⟩ := csl_drop h a ha
  refine ⟨ao', cap', h1, h2, fun n' c' e => ?_⟩
  injection e with e1 e2 e3
  cases hao : ao with
  | some p => exact absurd e1 (h3 (by rw [hao]; simp))
  | none =>
    have hc := hra n cap (by rw [hao])
    obtain ⟨_, _, e0, h0⟩ := rk_form h
    injection e0 with _ e5 e6
    have hb0 : a = 0 := by omega
    have hn0 : n = 0 := by omega
    have := h1 w
    rw [hao, hc, hb0, hn0] at this
    simp [Instr.slice, Instr.sliceBounds, Instr.sliceBound, asIntOf, run_underlying Try.underlying22] at this
    omega
theorem cl_len' (l : List Cn) : ∀ r ∈ l.map cnL, r.length = 7 := fun r hr => by obtain ⟨s, _, rfl⟩ := List.mem_map.1 hr; rfl
theorem cl_one' (l : List Cn) : ∀ r ∈ l.map cnL, ∀ u ∈ r, u.oneCell' = true := fun r hr u hu => by obtain ⟨s, _, rfl⟩ := List.mem_map.1 hr; exact cnL_one s u hu
set_option maxRecDepth 20000 in
set_option maxHeartbeats 8000000 in
theorem rsorted_any (v : Value) (l : List Cn) (w : World) (N : Nat) (h : Rk N w 7 v (l.map cnL)) (hN : N ≤ w.heap.size) (hl : l.length ≤ 1000) (ok : ∀ c ∈ l, okC c) : Calls Try.prog 33 #[v] w fun e w' => ∃ u, e = .returned u ∧ Hid (OR w' w.heap.size 27 7 u ((St.st ltc l).map cnL)) ∧ Hid (Below w.heap.size w w') := by
  obtain ⟨ao, cap, hx, hcap, hr⟩ := cands_read h
  obtain ⟨n, hn⟩ : ∃ n, l.length = n := ⟨_, rfl⟩
  rw [hn] at hx hl
  have HR : Hid (∀ w', Below w.heap.size w w' → ∀ (i : Nat) c, l[i]? = some c → ∃ ad, ao = some ad ∧ ∀ j u, (cnL c)[j]? = some u → w'.cell? ((ad.add (i * 7)).add j) = some u) := fun w' hb i c hc => by
    obtain ⟨ad, h1, h2, h3⟩ := hr w' (below_cells hb hN) i c hc
    exact ⟨ad, h1, h3⟩
  have HN : Hid (l.length = n ∧ (∀ c ∈ l, okC c)) := ⟨hn, ok⟩
  subst hx
  have hn3 : (n : Int) ≤ 1000 := by omega
  clear h hN hl ok hr hcap hn
  go_enter Try.func33, Try.ntmps33
  refine post_hid fun Q hQ => ?_
  go_wp2_with fail
  go_loopw [3, 5, 6, 7, 10] (fun o _ _ _ i wr => ∃ k : Nat, i = .int .i64 k ∧ (k : Int) ≤ n ∧ Hid (OR wr w.heap.size 27 7 o ((St.st ltc (l.take k)).map cnL) ∧ Below w.heap.size w wr)) (fun _ _ _ _ i _ => n - (intOf i).toNat)
  case atStart => exact ⟨0, rfl, by omega, OR.nil _ _ _ _, Below.refl _ _⟩
  case round =>
    obtain ⟨k, rfl, hk, HB⟩ := hrel
    by_cases hlt : (k : Int) < n
    · have hkl : k < l.length := by have := HN.out.1; omega
      obtain ⟨c, hc⟩ : ∃ c, l[k]? = some c := ⟨_, List.getElem?_eq_getElem hkl⟩
      obtain ⟨ad, g1, g3⟩ := HR.out wr HB.out.2 k c hc
      have hix := ix_C n cap k g1 hlt
      have HS : Hid (∀ j u, (cnL c)[j]? = some u → wr.cell? ((ad.add (k * 7)).add j) = some u) := g3
      have HK : Hid (St.st ltc (l.take (k + 1)) = St.mg ltc (St.st ltc (l.take k)) [c] ∧ okC c) := ⟨st_more hc, HN.out.2 c (List.mem_of_getElem? hc)⟩
      obtain ⟨S, hS⟩ : ∃ S, St.st ltc (l.take k) = S := ⟨_, rfl⟩
      have HSo : Hid (St.So ltc S ∧ S.length = k ∧ ∀ a ∈ S, okC a) := by
        rw [← hS]
        refine ⟨St.st_so ltc_swo _, by rw [St.st_len, List.length_take]; omega, fun a ha => HN.out.2 a ?_⟩
        exact List.mem_of_mem_take ((St.st_perm ltc (l.take k)).mem_iff.1 ha)
      rw [hS] at HB HK
      obtain ⟨ao2, c2, hy⟩ := or_len HB.out.1
      rw [List.length_map, HSo.out.2.1] at hy
      subst hy
      clear g1 g3 hc hkl hS
      go_upto_region 5 with (first
        | (refine step_ldat 27 _ rfl rfl (ad.add (k * 7)) (by rfl) (cnL c) _ Try.underlying27 rfl (by kernel_rfl) HS.out ?_)
        | (refine step_alL (by rfl) 27 rfl (cnL zCn).toArray (fun u => by kernel_rfl) ?_; intro w6 g H6)
        | (refine step_stL (by rfl) _ _ rfl g (cnL c).toArray (by rfl) (by rfl) (cnL zCn).toArray (by kernel_rfl) (by kernel_rfl) (by kernel_rfl) H6.out.bk ?_; intro w7 H7))
      have H8 : Hid (OR w7 w.heap.size 27 7 (.slice ao2 k c2) (S.map cnL) ∧ Below w.heap.size w w7 ∧ Bk g w7 (cnL c).toArray 27) := by
        have hb := H7.out.below H6.out.be H6.out.be.size (Nat.le_of_eq H6.out.at'.symm)
        exact ⟨HB.out.1.below hb (Nat.le_refl _), below_thru HB.out.2 hb, H7.out.bk⟩
      clear H6 H7 HS hix HB
      have HRd : Hid (∀ u, Below w7.heap.size w7 u → ∀ (i : Nat) a, S[i]? = some a → ∃ ad, ao2 = some ad ∧ ∀ j x, (cnL a)[j]? = some x → u.cell? ((ad.add (i * 7)).add j) = some x) := fun u hb i a ha => by
        obtain ⟨ao3, cap3, hv3, _, hr3⟩ := cands_read (H8.out.1.below hb (Nat.le_refl _)).rk
        injection hv3 with v1 v2 v3
        subst v1
        obtain ⟨ad, h1, _, h2⟩ := hr3 u (fun _ _ => rfl) i a ha
        exact ⟨ad, h1, h2⟩
      go_upto_block 2 with fail
      go_cut [6] from 11 to 43 (fun i wx => ∃ j : Nat, i = .int .i64 j ∧ (j : Int) ≤ k ∧ Hid (Below w7.heap.size w7 wx ∧ (∀ b ∈ S.drop j, ltc c b = true) ∧ (j = 0 ∨ ∃ a, S[j - 1]? = some a ∧ ltc c a = false)))
      case first =>
        go_wp2_with fail
        go_loopw [6] (fun i wr => ∃ j : Nat, i = .int .i64 j ∧ (j : Int) ≤ k ∧ Hid (Below w7.heap.size w7 wr ∧ (∀ b ∈ S.drop j, ltc c b = true))) (fun i _ => (intOf i).toNat)
        case atStart => exact ⟨k, rfl, by omega, Below.refl _ _, by rw [List.drop_of_length_le (by rw [HSo.out.2.1]; exact Nat.le_refl _)]; simp⟩
        case round =>
          obtain ⟨j, rfl, hj, HI⟩ := hrel
          have alc : Hid (∀ u, Below wr.heap.size wr u → Bk g u (cnL c).toArray 27) := fun u hu => H8.out.2.2.kept ((below_thru HI.out.1 hu).block _ H8.out.2.2.lt)
          rcases (show j = 0 ∨ ∃ jp, j = jp + 1 from by cases j with | zero => exact .inl rfl | succ jp => exact .inr ⟨jp, rfl⟩) with rfl | ⟨jp, hm⟩
          · go_wp2_with fail
            refine wp_region_grown (by kernel_rfl) (by kernel_rfl) ?_
            intro C hC hG
            refine QW.out ?_
            repeat (first
              | (refine qa_valW (by rfl) ?_; apply Exists.intro; refine ⟨fun u hu => ?_, ?_⟩; (go_simp; exact rfl); try go_simp)
              | (refine qw_step (fun K hK => ?_); go_simp; refine hK _ ?_; clear hK K))
            refine qw_nil ?_
            intro u hu
            have HB9 : Hid (Below w7.heap.size w7 u ∧ (∀ b ∈ S.drop 0, ltc c b = true)) := ⟨below_thru HI.out.1 hu, HI.out.2⟩
            clear alc hC hG hu HI
            go_wp2_with fail
            go_meet
            case rel => exact ⟨0, rfl, by omega, HB9.out.1, HB9.out.2, .inl rfl⟩
          · obtain ⟨a, ha⟩ : ∃ a, S[jp]? = some a := ⟨_, List.getElem?_eq_getElem (by have := HSo.out.2.1; omega)⟩
            obtain ⟨ad2, e1, _⟩ := HRd.out wr HI.out.1 jp a ha
            have hixp : ∀ u, Sem.run Try.prog (Instr.indexAt 22 (.slice ao2 k c2) (.int .i64 ((j : Int) - 1))) u = .ok (.pointer (some (ad2.add (jp * 7)))) u := fun u => by rw [show (j : Int) - 1 = (jp : Int) from by omega]; exact ix_C k c2 jp e1 (by omega) u
            have hwk : IntKind.i64.wrap ((j : Int) - 1) = (j : Int) - 1 := by rw [IntKind.wrap_i64]; omega
            have hm0 : decide (0 < j) = true := decide_eq_true (by omega)
            have ala : Hid (∀ u, Below wr.heap.size wr u → ∀ jq x, (cnL a)[jq]? = some x → u.cell? ((ad2.add (jp * 7)).add jq) = some x) := fun u hu => by
              obtain ⟨ad3, e3, e4⟩ := HRd.out u (below_thru HI.out.1 hu) jp a ha
              rw [Option.some.inj (e1.symm.trans e3)]; exact e4
            have HMj : Hid (S[jp]? = some a ∧ j = jp + 1) := ⟨ha, hm⟩
            obtain ⟨b, hb⟩ : ∃ b, ltc c a = b := ⟨_, rfl⟩
            have HBt : Hid (∀ u, Calls Try.prog 59 #[.agg (cnL c).toArray, .agg (cnL a).toArray] u fun e w' => e = .returned (.bool b) ∧ Below u.heap.size u w') := fun u => by rw [← hb]; exact rbetter_any c a u HK.out.2 (HSo.out.2.2 a (List.mem_of_getElem? ha))
            have HLt : Hid (ltc c a = b) := hb
            rw [hm] at hj
            have hj1 : (jp : Int) < k := by omega
            have hmj : (j : Int) - 1 = (jp : Int) := by omega
            clear e1 ha hm hb
            go_wp2_with fail
            refine wp_region_grown (by kernel_rfl) (by kernel_rfl) ?_
            intro C hC hG
            have al1 : Hid (∀ u, C u → Bk g u (cnL c).toArray 27) := fun u hu => alc.out u (hC u hu)
            have al2 : Hid (∀ u, C u → ∀ jq x, (cnL a)[jq]? = some x → u.cell? ((ad2.add (jp * 7)).add jq) = some x) := fun u hu => ala.out u (hC u hu)
            have Z1 : Hid (∀ u, C u → Calls Try.prog 59 #[.agg (cnL c).toArray, .agg (cnL a).toArray] u fun e w' => e = .returned (.bool b) ∧ C w') := fun u hu => (HBt.out u).mono fun e w' ⟨h1, h2⟩ => ⟨h1, hG u w' hu h2⟩
            clear hmj
            refine QW.out ?_
            repeat (first
              | (refine qa_ldW (by rfl) 27 _ rfl ⟨g, 0, none⟩ (by rfl) (cnL c) _ Try.underlying27 rfl (by kernel_rfl) (fun u hu => cells_of (al1.out u hu)) ?_; try go_simp)
              | (refine qa_ldW (by rfl) 27 _ rfl (ad2.add (jp * 7)) (by rfl) (cnL a) _ Try.underlying27 rfl (by kernel_rfl) (fun u hu => al2.out u hu) ?_; try go_simp)
              | (refine qa_valW (by rfl) ?_; apply Exists.intro; refine ⟨fun u hu => ?_, ?_⟩; (go_simp; exact rfl); try go_simp)
              | (refine qa_callW (by rfl) 59 _ _ ?_ (fun u hu => Z1.out u hu) ?_; (focus (intro u hu; go_simp; first | done | exact rfl)); try go_simp)
              | (refine qw_step (fun K hK => ?_); go_simp; refine hK _ ?_; clear hK K))
            refine qw_nil ?_
            intro u hu
            have HB9 : Hid (Below w7.heap.size w7 u) := below_thru HI.out.1 hu
            have HI2 : Hid (∀ b ∈ S.drop j, ltc c b = true) := HI.out.2
            clear al1 al2 Z1 hC hG hu HI HBt ala alc hixp
            cases b
            · go_wp2_with fail
              go_meet
              case rel => exact ⟨j, rfl, by have := HMj.out.2; omega, HB9.out, HI2.out, .inr ⟨a, by rw [HMj.out.2]; exact HMj.out.1, HLt.out⟩⟩
            · go_wp2_with fail
              go_roundw
              case rel => exact ⟨jp, by have := HMj.out.2; go_num, by omega, HB9.out, drop_more HMj.out.1 HLt.out (by rw [← HMj.out.2]; exact HI2.out)⟩
              case measure => have := HMj.out.2; simp [intOf]; omega
      case rest =>
        obtain ⟨j, rfl, hj, HJ⟩ := hcut
        have hjl : j ≤ S.length := by have := HSo.out.2.1; omega
        have hOc := H8.out.1.below HJ.out.1 (Nat.le_refl _)
        obtain ⟨o1, c1, hr1, hk1, ha1⟩ := csl_take2 hOc.rk hOc.ra j hjl
        obtain ⟨o3, c3, hr3, hk3, ha3⟩ := csl_drop2 hOc.rk hOc.ra j hjl
        have HT : Hid (Rk wc.heap.size wc 7 (.slice o1 j c1) ((S.take j).map cnL) ∧ Ra (.slice o1 j c1) ∧ Rk wc.heap.size wc 7 (.slice o3 (k - j) c3) ((S.drop j).map cnL) ∧ Ra (.slice o3 (k - j) c3)) := ⟨hk1, ha1, hk3, ha3⟩
        have HCc : Hid (∀ u, Below wc.heap.size wc u → ∀ j' x, (cnL c)[j']? = some x → u.cell? ((⟨g, 0, none⟩ : Addr).add j') = some x) := fun u hu => cells_of (H8.out.2.2.kept ((below_thru HJ.out.1 hu).block _ H8.out.2.2.lt))
        have HEq : Hid (St.st ltc (l.take (k + 1)) = S.take j ++ c :: S.drop j) := by show _ = _; rw [HK.out.1]; exact ins_at HSo.out.1 hjl HJ.out.2.1 HJ.out.2.2
        have HW : Hid (Below w.heap.size w wc) := below_thru H8.out.2.1 HJ.out.1
        have HLs : Hid ((S.take j).length ≤ 1000 ∧ (S.drop j).length ≤ 1000) := by have := HSo.out.2.1; exact ⟨by rw [List.length_take]; omega, by rw [List.length_drop]; omega⟩
        clear hOc hk1 ha1 hk3 ha3 HRd H8 HJ HK HSo hjl
        go_wp2_with (first
          | (at_builtin; refine wpList_appk tiC rfl _ _ rfl wc.heap.size wc.heap.size (.slice none 0 0) (.slice o1 j c1) [] ((S.take j).map cnL) (by rfl) (by rfl) (OR.nil _ _ _ _) HT.out.1 HT.out.2.1 (cl_len' _) (cl_one' _) ?_ ?_ (Nat.le_refl _) ?_; (have := HLs.out.1; rw [List.length_map]; simp only [maxLen, List.length_nil]; omega); (have := HLs.out.1; rw [List.length_map]; simp only [List.length_nil]; omega); intro v9 w9 h9 k9 _; have H9 : Hid (OR w9 wc.heap.size 27 7 v9 ((S.take j).map cnL) ∧ Below wc.heap.size wc w9) := ⟨h9, (Below.refl _ _).grown k9 (Nat.le_refl _) (fun q hq => by cases hq)⟩; clear h9 k9)
          | (refine step_ldat 27 _ rfl rfl ⟨g, 0, none⟩ (by rfl) (cnL c) _ Try.underlying27 rfl (by kernel_rfl) (HCc.out _ H9.out.2) ?_)
          | (refine step_bsL (by rfl) 22 27 _ rfl (.agg (cnL c).toArray) (cnL c) (by rfl) (run_bsC c) ?_; intro W5 g5 H5)
          | (at_builtin; refine step_apL tiC rfl _ _ rfl wc.heap.size g5 v9 (cnL c) (by rfl) (by rfl) rfl (cnL_one c) w9 _ ?_ ?_ H9.out.1 H5.out H9.out.2.size ?_; (have := HLs.out.1; rw [List.length_map]; simp only [maxLen]; omega); (have := HLs.out.1; rw [List.length_map]; omega); intro va wa Ha; have HA9 : Hid (OR wa wc.heap.size 27 7 va ((S.take j).map cnL ++ [cnL c]) ∧ Below wc.heap.size wc wa) := ⟨Ha.out.1, H9.out.2.trans Ha.out.2⟩; clear Ha)
          | (at_builtin; refine wpList_appk tiC rfl _ _ rfl wc.heap.size wc.heap.size va (.slice o3 (k - j) c3) ((S.take j).map cnL ++ [cnL c]) ((S.drop j).map cnL) (by rfl) (by rfl) HA9.out.1 (HT.out.2.2.1.below HA9.out.2 (Nat.le_refl _)) HT.out.2.2.2 (cl_len' _) (cl_one' _) ?_ ?_ HA9.out.2.size ?_; (have := HLs.out; rw [List.length_append, List.length_map, List.length_map]; simp only [maxLen, List.length_cons, List.length_nil]; omega); (have := HLs.out; rw [List.length_append, List.length_map, List.length_map]; simp only [List.length_cons, List.length_nil]; omega); intro vb wb hb kb _; have HB2 : Hid (OR wb wc.heap.size 27 7 vb ((S.take j).map cnL ++ [cnL c] ++ (S.drop j).map cnL) ∧ Below wc.heap.size wc wb) := ⟨hb, HA9.out.2.grown kb HA9.out.2.size (fun q hq => HA9.out.1.own q hq)⟩; clear hb kb))
        have HF : Hid (OR wb w.heap.size 27 7 vb ((St.st ltc (l.take (k + 1))).map cnL) ∧ Below w.heap.size w wb) := by
          refine ⟨?_, HW.out.trans (HB2.out.2.mono HW.out.size)⟩
          rw [HEq.out, List.map_append, List.map_cons]
          have := HB2.out.1.mono HW.out.size
          rw [List.append_assoc] at this
          exact this
        refine ⟨⟨k + 1, by go_num, by omega, HF⟩, ?_⟩
        simp [intOf]; omega
    · have hkn : k = n := by omega
      subst hkn
      have HZ : Hid (l.take k = l) := List.take_of_length_le (by rw [HN.out.1]; exact Nat.le_refl _)
      go_wp2_with fail
      rw [hQ.out]
      go_ret
      have h1 := HB.out
      rw [HZ.out] at h1
      exact ⟨_, rfl, h1.1, h1.2⟩
end Go.Proofs.Ytdlipponajilbaa
/- The reference: Combine. -/
namespace Go.Proofs.Ytdlipponajilbaa
open Go Go.RowKit Go.Sort
set_option linter.unusedVariables false
theorem rcomb_empty (v : Value) (w : World) (N : Nat) (h : Rk N w 7 v (([] : List Cn).map cnL)) : Calls Try.prog 8 #[v] w fun e w' => e = .returned (.tuple #[.int .i64 0, .int .i64 0]) ∧ Below w.heap.size w w' := by
  obtain ⟨ao, cap, hv, _⟩ := h
  subst hv
  go_enter Try.func8, Try.ntmps8
  go_wp2_with fail
  go_ret2
  exact ⟨rfl, Below.refl _ _⟩
set_option maxRecDepth 20000 in
set_option maxHeartbeats 2000000 in
theorem rcombine_any (v : Value) (l : List Cn) (w : World) (N : Nat) (h : Rk N w 7 v (l.map cnL)) (hN : N ≤ w.heap.size) (hl : l.length ≤ 1000) (ok : ∀ c ∈ l, okC c) : Calls Try.prog 8 #[v] w fun e w' => e = .returned (.tuple #[.int .i64 (cmO l), .int .i64 (cmJ l)]) ∧ Below w.heap.size w w' := by
  by_cases hne : l = []
  · subst hne
    exact rcomb_empty v w N h
  have hpos : 0 < l.length := List.length_pos_iff.2 hne
  obtain ⟨ao, cap, hv, hcap⟩ := rk_form h
  obtain ⟨n, hn⟩ : ∃ n, l.length = n := ⟨_, rfl⟩
  rw [hn] at hv hl hcap hpos
  subst hv
  obtain ⟨m, hm⟩ : ∃ m : Nat, m = min n 16 := ⟨_, rfl⟩
  have hmin : min (n : Int) 16 = (m : Int) := by omega
  obtain ⟨ao1, cap1, hrun, hk1, _, _⟩ := csl_take h m (by omega)
  have hT0 : l.take m = l.take 16 := by rw [hm, ← hn]; exact take_min l
  rw [hT0] at hk1
  obtain ⟨T, hT⟩ : ∃ T, l.take 16 = T := ⟨_, rfl⟩
  rw [hT] at hk1
  have hTl : T.length = m := by rw [← hT, ← hT0, List.length_take]; omega
  obtain ⟨ao2, cap2, hrun2, hk2, _, _⟩ := csl_drop hk1 1 (by omega)
  obtain ⟨c0, hc0⟩ : ∃ c, T[0]? = some c := ⟨_, List.getElem?_eq_getElem (by omega)⟩
  have hfs : fs l = c0 := by
    unfold fs
    rw [← hT, List.getElem?_take_of_lt (by omega)] at hc0
    exact getD_at hc0
  have HL : Hid (cmO l = cmF c0.o (wts T) c0.o (T.drop 1) ∧ cmJ l = max c0.j (sj T 0)) := by
    show _ ∧ _
    unfold cmO cmJ
    rw [if_neg hne, if_neg hne, hfs, hT]
    exact ⟨rfl, rfl⟩
  have HO : Hid (∀ c ∈ T, okC c) := fun c hc => ok c (by rw [← hT] at hc; exact List.mem_of_mem_take hc)
  have HT : Hid (T.length = m ∧ m ≤ 16 ∧ 1 ≤ m ∧ T[0]? = some c0) := ⟨hTl, by omega, by omega, hc0⟩
  have HK1 : Hid (Rk N w 7 (.slice ao1 m cap1) (T.map cnL) ∧ N ≤ w.heap.size) := ⟨hk1, hN⟩
  have HK2 : Hid (Rk N w 7 (.slice ao2 (m - 1) cap2) ((T.drop 1).map cnL)) := hk2
  obtain ⟨m1, hm1⟩ : ∃ m1, m - 1 = m1 := ⟨_, rfl⟩
  rw [hm1] at hrun2 HK2
  have HM1 : Hid (m = m1 + 1) := by show _ = _; omega
  have hrun2' : ∀ u, (Instr.slice 22 (.slice ao1 m cap1) (some (.int .i64 1)) none none).run Try.prog u = .ok (.slice ao2 m1 cap2) u := hrun2
  have b1 : (m : Int) ≤ 16 := by omega
  have b2 : (1 : Int) ≤ m := by omega
  have b3 : ¬ (n : Int) = 0 := by omega
  have b3b : ((n : Int) == 0) = false := by simpa using b3
  have b4 : (m1 : Int) ≤ 15 := by omega
  clear h hN hl ok hne hpos hcap hn hm hk1 hT0 hT hTl hrun2 hk2 hc0 hfs hm1
  go_enter Try.func8, Try.ntmps8
  refine post_hid fun Q hQ => ?_
  go_wp2_with fail
  -- the sum of the weights
  obtain ⟨ao', cap', hv1, hcap1, hr1⟩ := cands_read HK1.out.1
  injection hv1 with e1 e2 e3
  subst e1 e3
  have HR : Hid (∀ w', Below w.heap.size w w' → ∀ (i : Nat) c, T[i]? = some c → ∃ ad, ao1 = some ad ∧ ad.block < w.heap.size ∧ ∀ j u, (cnL c)[j]? = some u → w'.cell? ((ad.add (i * 7)).add j) = some u) := fun w' hb i c hc => by
    obtain ⟨ad, h1, h3, h2⟩ := hr1 w' (below_cells hb HK1.out.2) i c hc
    exact ⟨ad, h1, by have := HK1.out.2; omega, h2⟩
  clear hr1 hcap1 e2
  go_loopw [4, 6, 20] (fun v4 _ i wr => ∃ (k : Nat), i = .int .i64 k ∧ (k : Int) ≤ m ∧ v4 = .int .i64 (wts (T.take k)) ∧ Hid (Below w.heap.size w wr)) (fun _ _ i _ => m - (intOf i).toNat)
  case atStart => exact ⟨0, rfl, by omega, rfl, Below.refl _ _⟩
  case round =>
    obtain ⟨k, rfl, hk, rfl, HB⟩ := hrel
    obtain ⟨A, hA⟩ : ∃ A, wts (T.take k) = A := ⟨_, rfl⟩
    have HA : Hid (wts (T.take k) = A) := hA
    have hAb : 0 ≤ A ∧ A ≤ 17592186044416 := by
      have := wts_bd (T.take k)
      rw [List.length_take] at this
      rw [← hA]
      have h2 : min k T.length ≤ 16 := by have := HT.out; omega
      omega
    obtain ⟨hA1, hA2⟩ := hAb
    rw [hA]
    clear hA
    by_cases hlt : (k : Int) < m
    · obtain ⟨c, hc⟩ : ∃ c, T[k]? = some c := ⟨_, List.getElem?_eq_getElem (by have := HT.out; omega)⟩
      obtain ⟨ad, g1, g2, g3⟩ := HR.out wr HB.out k c hc
      have hix := ix_C m cap1 k g1 hlt
      have HS : Hid (∀ j u, (cnL c)[j]? = some u → wr.cell? ((ad.add (k * 7)).add j) = some u) := g3
      obtain ⟨X, hX⟩ : ∃ X, wt c = X := ⟨_, rfl⟩
      have HN2 : Hid (wts (T.take (k + 1)) = A + X) := by
        show _ = _
        rw [take_snoc hc, wts_snoc, HA.out, hX]
      have HC : Hid (∀ u, Calls Try.prog 27 #[.agg (cnL c).toArray] u fun e w' => e = .returned (.int .i64 X) ∧ Below u.heap.size u w') := fun u => by rw [← hX]; exact rweight_any c u (HO.out c (List.mem_of_getElem? hc))
      have hXb : 0 ≤ X ∧ X ≤ 1099511627776 := by rw [← hX]; exact wt_bd c
      obtain ⟨hX1, hX2⟩ := hXb
      clear g1 g2 g3 hc hX hmin hrun
      go_upto_region 8 with (first
        | (refine step_ldat 27 _ rfl rfl (ad.add (k * 7)) (by rfl) (cnL c) _ Try.underlying27 rfl (by kernel_rfl) HS.out ?_)
        | (refine step_alL (by rfl) 27 rfl (cnL zCn).toArray (fun u => by kernel_rfl) ?_; intro w3 g H3)
        | (refine step_stL (by rfl) _ _ rfl g (cnL c).toArray (by rfl) (by rfl) (cnL zCn).toArray (by kernel_rfl) (by kernel_rfl) (by kernel_rfl) H3.out.bk ?_; intro w4 H4))
      have H5 : Hid (Below w.heap.size w w4) := by
        have hb := H4.out.below H3.out.be H3.out.be.size (Nat.le_of_eq H3.out.at'.symm)
        exact below_thru HB.out hb
      have HSc : Hid (∀ j u, (cnL c)[j]? = some u → w4.cell? ((⟨g, 0, none⟩ : Addr).add j) = some u) := cells_of (l := cnL c) H4.out.bk
      clear H3 H4 HS HB hix
      go_wp2_with (first
        | (refine step_ldat 27 _ rfl rfl ⟨g, 0, none⟩ (by rfl) (cnL c) _ Try.underlying27 rfl (by kernel_rfl) HSc.out ?_)
        | (go_at_call 27; refine (HC.out _).mono ?_; rintro e w5 ⟨rfl, hb5⟩; have H6 : Hid (Below w.heap.size w w5) := below_thru H5.out hb5; clear hb5))
      go_roundw
      case rel => exact ⟨k + 1, by go_num, by omega, by rw [HN2.out], H6.out⟩
      case measure => simp [intOf]; omega
    · have hkm : k = m := by omega
      subst hkm
      have HA2 : Hid (wts T = A) := by have := HA.out; rw [List.take_of_length_le (by have := HT.out; omega)] at this; exact this
      obtain ⟨ad, g1, g2, g3⟩ := HR.out wr HB.out 0 c0 HT.out.2.2.2
      rw [Nat.zero_mul, add_zero'] at g3
      have hix0 : ∀ u, Sem.run Try.prog (Instr.indexAt 22 (.slice ao1 k cap1) (.int .i64 0)) u = .ok (.pointer (some ad)) u := fun u => by
        have := ix_C k cap1 0 g1 (by omega) u
        rw [Nat.zero_mul, add_zero'] at this
        exact this
      have HZ0 : Hid (∀ u, Below w.heap.size w u → u.cell? ⟨ad.block, ad.off + 1, none⟩ = some (.int .i64 c0.o) ∧ u.cell? ⟨ad.block, ad.off + 3, none⟩ = some (.int .i64 c0.j)) := fun u hb => by
        obtain ⟨ad9, e1, _, e3⟩ := HR.out u hb 0 c0 HT.out.2.2.2
        rw [Nat.zero_mul, add_zero'] at e3
        obtain rfl : ad = ad9 := Option.some.inj (g1.symm.trans e1)
        have h1 := e3 1 (.int .i64 c0.o) rfl
        have h3 := e3 3 (.int .i64 c0.j) rfl
        exact ⟨by simpa [Addr.add] using h1, by simpa [Addr.add] using h3⟩
      obtain ⟨q1, q3⟩ := HZ0.out wr HB.out
      clear g1 g2 g3 hmin hrun HA q3
      obtain ⟨w4, hw4⟩ : ∃ w4, wr = w4 := ⟨_, rfl⟩
      rw [hw4] at q1 HB ⊢
      have H5 : Hid (Below w.heap.size w w4) := HB.out
      clear hw4
      obtain ⟨ao'', cap'', hv2, hcap2, hr2⟩ := cands_read HK2.out
      injection hv2 with e1 e2 e3
      subst e1 e3
      have HR2 : Hid (∀ w', Below w.heap.size w w' → ∀ (i : Nat) c, (T.drop 1)[i]? = some c → ∃ ad, ao2 = some ad ∧ ∀ j u, (cnL c)[j]? = some u → w'.cell? ((ad.add (i * 7)).add j) = some u) := fun w' hb i c hc => by
        obtain ⟨ad, h1, h3, h2⟩ := hr2 w' (below_cells hb HK1.out.2) i c hc
        exact ⟨ad, h1, h2⟩
      have HC0 : Hid (okC c0) := HO.out c0 (List.mem_of_getElem? HT.out.2.2.2)
      have ho1 := HC0.out.o.1
      have ho2 := HC0.out.o.2
      clear HB hr2 hcap2 e2 HR
      go_wp2_with fail
      clear q1
      go_loopw [7, 9, 36] (fun v8 _ i wr => ∃ (q : Nat), i = .int .i64 q ∧ (q : Int) ≤ m1 ∧ v8 = .int .i64 (cmF c0.o A c0.o ((T.drop 1).take q)) ∧ Hid (Below w4.heap.size w4 wr)) (fun _ _ i _ => m1 - (intOf i).toNat)
      case atStart => exact ⟨0, rfl, by omega, rfl, Below.refl _ _⟩
      case round =>
        obtain ⟨q, rfl, hq, rfl, HB⟩ := hrel
        obtain ⟨O, hO⟩ : ∃ O, cmF c0.o A c0.o ((T.drop 1).take q) = O := ⟨_, rfl⟩
        have HOf : Hid (cmF c0.o A c0.o ((T.drop 1).take q) = O) := hO
        rw [hO]
        clear hO
        by_cases hlq : (q : Int) < m1
        · obtain ⟨c, hc⟩ : ∃ c, (T.drop 1)[q]? = some c := ⟨_, List.getElem?_eq_getElem (by rw [List.length_drop]; have := HT.out; have := HM1.out; omega)⟩
          obtain ⟨ad2, g1, g3⟩ := HR2.out wr (below_thru H5.out HB.out) q c hc
          have hix := ix_C m1 cap2 q g1 hlq
          have HS : Hid (∀ j u, (cnL c)[j]? = some u → wr.cell? ((ad2.add (q * 7)).add j) = some u) := g3
          have HK : Hid ((T.drop 1)[q]? = some c ∧ okC c) := ⟨hc, HO.out c (List.mem_of_mem_drop (List.mem_of_getElem? hc))⟩
          clear g1 g3 hc
          go_upto_region 14 with (first
            | (refine step_ldat 27 _ rfl rfl (ad2.add (q * 7)) (by rfl) (cnL c) _ Try.underlying27 rfl (by kernel_rfl) HS.out ?_)
            | (refine step_alL (by rfl) 27 rfl (cnL zCn).toArray (fun u => by kernel_rfl) ?_; intro w5 g5 H6)
            | (refine step_stL (by rfl) _ _ rfl g5 (cnL c).toArray (by rfl) (by rfl) (cnL zCn).toArray (by kernel_rfl) (by kernel_rfl) (by kernel_rfl) H6.out.bk ?_; intro w6 H7))
          have H8 : Hid (Below w4.heap.size w4 w6 ∧ Bk g5 w6 (cnL c).toArray 27) := by
            have hb := H7.out.below H6.out.be H6.out.be.size (Nat.le_of_eq H6.out.at'.symm)
            have hb2 := below_thru HB.out hb
            exact ⟨hb2, H7.out.bk⟩
          clear H6 H7 HS HB hix
          obtain ⟨D, hD⟩ : ∃ D, Fx.cl 4611686018427387904 (c.o - c0.o) = D := ⟨_, rfl⟩
          obtain ⟨X, hX⟩ : ∃ X, wt c = X := ⟨_, rfl⟩
          obtain ⟨E, hE⟩ : ∃ E, scl D X A = E := ⟨_, rfl⟩
          obtain ⟨F, hF⟩ : ∃ F, Fx.cl 4611686018427387904 (O + E) = F := ⟨_, rfl⟩
          have HN2 : Hid (cmF c0.o A c0.o ((T.drop 1).take (q + 1)) = F) := by
            show _ = _
            rw [take_snoc HK.out.1, cmF_snoc, HOf.out]
            unfold cmS
            rw [hD, hX, hE, hF]
          have hDb : bd62 D := by rw [← hD]; exact cl_bd62 _
          have hEb : bd62 E := by rw [← hE]; exact scl_bd _ _ _
          have hXb : 0 ≤ X ∧ X ≤ 1099511627776 := by rw [← hX]; exact wt_bd c
          have hOb : i64B O := by
            rw [← HOf.out]
            unfold cmF
            generalize (T.drop 1).take q = zs
            have : ∀ (zs : List Cn) (a : Int), i64B a → i64B (zs.foldl (cmS c0.o A) a) := by
              intro zs
              induction zs with
              | nil => intro a ha; exact ha
              | cons z zs ih =>
                intro a ha
                rw [List.foldl_cons]
                refine ih _ ?_
                unfold cmS
                have := cl_bd62 (a + scl (Fx.cl 4611686018427387904 (z.o - c0.o)) (wt z) A)
                unfold bd62 at this
                unfold i64B
                omega
            exact this zs _ HC0.out.o
          unfold bd62 at hDb hEb
          unfold i64B at hOb
          have C1 : Hid (∀ u, Calls Try.prog 30 #[.int .i64 c.o, .int .i64 c0.o] u fun e w' => e = .returned (.int .i64 D) ∧ Below u.heap.size u w') := fun u => by
            have := rsub_any c.o c0.o u HK.out.2.o.1 HK.out.2.o.2 HC0.out.o.1 HC0.out.o.2
            rw [← Int.sub_eq_add_neg, hD] at this
            exact this
          have C2 : Hid (∀ u, Calls Try.prog 27 #[.agg (cnL c).toArray] u fun e w' => e = .returned (.int .i64 X) ∧ Below u.heap.size u w') := fun u => by rw [← hX]; exact rweight_any c u HK.out.2
          have C3 : Hid (∀ u, Calls Try.prog 29 #[.int .i64 D, .int .i64 X, .int .i64 A] u fun e w' => e = .returned (.int .i64 E) ∧ Below u.heap.size u w') := fun u => by
            rw [← hE]
            have := rscale_any D X A u (by omega) (by omega) (by omega) (by omega) (by omega) (by omega)
            first | exact this | (unfold scl; exact this)
          have C4 : Hid (∀ u, Calls Try.prog 28 #[.int .i64 O, .int .i64 E] u fun e w' => e = .returned (.int .i64 F) ∧ Below u.heap.size u w') := fun u => by
            rw [← hF]
            exact radd_any O E u (by omega) (by omega) (by omega) (by omega)
          clear hD hX hE hF hDb hEb hXb hOb
          refine wp_region_grown (by kernel_rfl) (by kernel_rfl) ?_
          intro C hC hG
          have al : Hid (∀ u, C u → Bk g5 u (cnL c).toArray 27) := fun u hu => H8.out.2.kept ((hC u hu).block _ H8.out.2.lt)
          have q0 : Hid (∀ u, C u → u.cell? ⟨g5, 1, none⟩ = some (.int .i64 c.o)) := fun u hu => (al.out u hu).cell 1
          have q2 : Hid (∀ u, C u → u.cell? ⟨ad.block, ad.off + 1, none⟩ = some (.int .i64 c0.o)) := fun u hu => (HZ0.out u (below_thru H5.out (below_thru H8.out.1 (hC u hu)))).1
          have cg : ∀ {f args v}, Hid (∀ u, Calls Try.prog f args u fun e w' => e = .returned v ∧ Below u.heap.size u w') → Hid (∀ u, C u → Calls Try.prog f args u fun e w' => e = .returned v ∧ C w') := fun h u hu => (h.out u).mono fun e w' ⟨h1, h2⟩ => ⟨h1, hG u w' hu h2⟩
          have Z1 := cg C1
          have Z2 := cg C2
          have Z3 := cg C3
          have Z4 := cg C4
          clear cg C1 C2 C3 C4
          refine QW.out ?_
          repeat (first
            | (refine qa_ldW (by rfl) 27 _ rfl ⟨g5, 0, none⟩ (by rfl) (cnL c) _ Try.underlying27 rfl (by kernel_rfl) (fun u hu => cells_of (al.out u hu)) ?_; try go_simp)
            | (refine qa_valW (by rfl) ?_; apply Exists.intro; refine ⟨fun u hu => ?_, ?_⟩; ((have e0 := q0.out u hu); (have e2 := q2.out u hu); go_simp; exact rfl); try go_simp)
            | (refine qa_callW (by rfl) 30 _ _ ?_ (fun u hu => Z1.out u hu) ?_; (focus (intro u hu; go_simp; first | done | exact rfl)); try go_simp)
            | (refine qa_callW (by rfl) 27 _ _ ?_ (fun u hu => Z2.out u hu) ?_; (focus (intro u hu; go_simp; first | done | exact rfl)); try go_simp)
            | (refine qa_callW (by rfl) 29 _ _ ?_ (fun u hu => Z3.out u hu) ?_; (focus (intro u hu; go_simp; first | done | exact rfl)); try go_simp)
            | (refine qa_callW (by rfl) 28 _ _ ?_ (fun u hu => Z4.out u hu) ?_; (focus (intro u hu; go_simp; first | done | exact rfl)); try go_simp))
          refine qw_nil ?_
          intro u hu
          have HB9 : Hid (Below w4.heap.size w4 u) := below_thru H8.out.1 hu
          clear al q0 q2 Z1 Z2 Z3 Z4 hC hG hu H8
          go_wp2_with fail
          go_roundw
          case rel => exact ⟨q + 1, by go_num, by omega, by rw [HN2.out], HB9.out⟩
          case measure => simp [intOf]; omega
        · have hqm : q = m1 := by omega
          subst hqm
          have HOz : Hid (cmO l = O) := by
            have := HOf.out
            rw [List.take_of_length_le (by rw [List.length_drop]; have := HT.out; have := HM1.out; omega)] at this
            show _ = _
            rw [HL.out.1, HA2.out, this]
          have HBk : Hid (Below w.heap.size w wr) := below_thru H5.out HB.out
          obtain ⟨Z, hZ⟩ : ∃ Z, sj T 0 = Z := ⟨_, rfl⟩
          obtain ⟨M, hM⟩ : ∃ M, max c0.j Z = M := ⟨_, rfl⟩
          have HJz : Hid (cmJ l = M) := by show _ = _; rw [HL.out.2, hZ, hM]
          have C1 : Hid (∀ u, Below wr.heap.size wr u → Calls Try.prog 31 #[.slice ao1 k cap1, .int .i64 0] u fun e w' => e = .returned (.int .i64 Z) ∧ Below u.heap.size u w') := fun u hu => by
            rw [← hZ]
            have hb := below_thru HBk.out hu
            exact rjitter_any _ T 0 u N (HK1.out.1.below hb HK1.out.2) (Nat.le_trans HK1.out.2 hb.size) (by have := HT.out; omega) HO.out (by have := HT.out; omega)
          have HMx : Hid (max c0.j Z = M) := hM
          clear hZ hM HR2 HB
          go_wp2_with fail
          refine wp_region_grown (by kernel_rfl) (by kernel_rfl) ?_
          intro C hC hG
          have q2 : Hid (∀ u, C u → u.cell? ⟨ad.block, ad.off + 3, none⟩ = some (.int .i64 c0.j)) := fun u hu => (HZ0.out u (below_thru HBk.out (hC u hu))).2
          have Z1 : Hid (∀ u, C u → Calls Try.prog 31 #[.slice ao1 k cap1, .int .i64 0] u fun e w' => e = .returned (.int .i64 Z) ∧ C w') := fun u hu => (C1.out u (hC u hu)).mono fun e w' ⟨h1, h2⟩ => ⟨h1, hG u w' hu h2⟩
          clear C1
          refine QW.out ?_
          repeat (first
            | (refine qa_valW (by rfl) ?_; apply Exists.intro; refine ⟨fun u hu => ?_, ?_⟩; ((have e2 := q2.out u hu); go_simp; exact rfl); try go_simp)
            | (refine qa_callW (by rfl) 31 _ _ ?_ (fun u hu => Z1.out u hu) ?_; (focus (intro u hu; go_simp; first | done | exact rfl)); try go_simp))
          refine qw_nil ?_
          intro u hu
          have HB9 : Hid (Below w.heap.size w u) := below_thru HBk.out hu
          clear q2 Z1 hC hG hu HBk
          go_wp2_with fail
          rw [hQ.out]
          go_ret2
          exact ⟨ret2i HOz.out.symm (by rw [HJz.out]; first | exact HMx.out | (rw [← HMx.out]; simp [Int.max_def]; done)), HB9.out⟩
end Go.Proofs.Ytdlipponajilbaa
/- The reference: Select, Best. -/
namespace Go.Proofs.Ytdlipponajilbaa
open Go Go.RowKit Go.Sort
set_option linter.unusedVariables false
set_option maxRecDepth 20000 in
set_option maxHeartbeats 4000000 in
theorem rselect_any (v : Value) (l : List Cn) (was : Int) (w : World) (N : Nat) (h : Rk N w 7 v (l.map cnL)) (hN : N ≤ w.heap.size) (hl : l.length ≤ 1000) (ok : ∀ c ∈ l, okC c) : Calls Try.prog 14 #[v, .int .i64 was] w fun e w' => e = .returned (.int .i64 (if idxP (isId was) l < 0 then 0 else sj l (idxP (isId was) l).toNat)) ∧ Below w.heap.size w w' := by
  obtain ⟨ao, cap, hx, hcap, hr⟩ := cands_read h
  obtain ⟨n, hn⟩ : ∃ n, l.length = n := ⟨_, rfl⟩
  have HJ : Hid (∀ k : Nat, k < l.length → ∀ u, Below w.heap.size w u → Calls Try.prog 31 #[v, .int .i64 (k : Int)] u fun e w' => e = .returned (.int .i64 (sj l k)) ∧ Below u.heap.size u w') := fun k hk u hb => rjitter_any v l k u N (h.below hb hN) (Nat.le_trans hN hb.size) hl ok hk
  rw [hn] at hx hl
  have HR : Hid (∀ w', Below w.heap.size w w' → ∀ (i : Nat) c, l[i]? = some c → ∃ ad, ao = some ad ∧ ∀ j u, (cnL c)[j]? = some u → w'.cell? ((ad.add (i * 7)).add j) = some u) := fun w' hb i c hc => by
    obtain ⟨ad, h1, h2, h3⟩ := hr w' (below_cells hb hN) i c hc
    exact ⟨ad, h1, h3⟩
  have HN : Hid (l.length = n) := hn
  subst hx
  have hn3 : (n : Int) ≤ 1000 := by omega
  obtain ⟨Z, hZ⟩ : ∃ Z, (if idxP (isId was) l < 0 then 0 else sj l (idxP (isId was) l).toNat) = Z := ⟨_, rfl⟩
  have HZ : Hid ((if idxP (isId was) l < 0 then 0 else sj l (idxP (isId was) l).toNat) = Z) := hZ
  rw [hZ]
  clear h hN hl ok hr hcap hn hZ
  go_enter Try.func14, Try.ntmps14
  refine post_hid fun Q hQ => ?_
  go_wp2_with fail
  go_loopw [5, 6, 9] (fun _ _ i wr => ∃ k : Nat, i = .int .i64 k ∧ (k : Int) ≤ n ∧ Hid ((∀ (i : Nat) x, i < k → l[i]? = some x → isId was x = false) ∧ Below w.heap.size w wr)) (fun _ _ i _ => n - (intOf i).toNat)
  case atStart => exact ⟨0, rfl, by omega, fun i x hi => absurd hi (by omega), Below.refl _ _⟩
  case round =>
    obtain ⟨k, rfl, hk, HB⟩ := hrel
    by_cases hlt : (k : Int) < n
    · have hkl : k < l.length := by have := HN.out; omega
      obtain ⟨c, hc⟩ : ∃ c, l[k]? = some c := ⟨_, List.getElem?_eq_getElem hkl⟩
      obtain ⟨ad, g1, g3⟩ := HR.out wr HB.out.2 k c hc
      have hix := ix_C n cap k g1 hlt
      have HS : Hid (∀ j u, (cnL c)[j]? = some u → wr.cell? ((ad.add (k * 7)).add j) = some u) := g3
      have HK : Hid (l[k]? = some c ∧ k < l.length) := ⟨hc, hkl⟩
      clear g1 g3 hc hkl
      go_upto_region 4 with (first
        | (refine step_ldat 27 _ rfl rfl (ad.add (k * 7)) (by rfl) (cnL c) _ Try.underlying27 rfl (by kernel_rfl) HS.out ?_)
        | (refine step_alL (by rfl) 27 rfl (cnL zCn).toArray (fun u => by kernel_rfl) ?_; intro w6 g H6)
        | (refine step_stL (by rfl) _ _ rfl g (cnL c).toArray (by rfl) (by rfl) (cnL zCn).toArray (by kernel_rfl) (by kernel_rfl) (by kernel_rfl) H6.out.bk ?_; intro w7 H7))
      have H8 : Hid (Below w.heap.size w w7 ∧ Bk g w7 (cnL c).toArray 27) := ⟨below_thru HB.out.2 (H7.out.below H6.out.be H6.out.be.size (Nat.le_of_eq H6.out.at'.symm)), H7.out.bk⟩
      have q0 : w7.cell? ⟨g, 0, none⟩ = some (.int .i64 c.id) := H8.out.2.cell 0
      clear H6 H7 HS hix
      by_cases hid : c.id = was
      · have HE : Hid (Z = sj l k) := by
          show _ = _
          have := idxP_hit (isId was) l k c HK.out.1 (by unfold isId; simpa using hid) HB.out.1
          rw [← HZ.out, this, if_neg (by omega), Int.toNat_natCast]
        have HC : Hid (Calls Try.prog 31 #[.slice ao n cap, .int .i64 (k : Int)] w7 fun e w' => e = .returned (.int .i64 Z) ∧ Below w7.heap.size w7 w') := by
          have := HJ.out k HK.out.2 w7 H8.out.1
          rw [← HE.out] at this
          exact this
        have hb : (c.id == was) = true := by simpa using hid
        clear hid
        go_wp2_with (go_at_call 31; refine HC.out.mono ?_; rintro e w9 ⟨rfl, h9⟩)
        rw [hQ.out]
        go_ret
        exact ⟨rfl, below_thru H8.out.1 h9⟩
      · have hb : (c.id == was) = false := by simpa using hid
        have HF : Hid ((∀ (i : Nat) x, i < k + 1 → l[i]? = some x → isId was x = false) ∧ Below w.heap.size w w7) := by
          refine ⟨fun i x hi hx => ?_, H8.out.1⟩
          by_cases e : i = k
          · subst e
            rw [HK.out.1] at hx
            injection hx with hx
            subst hx
            unfold isId; simpa using hid
          · exact HB.out.1 i x (by omega) hx
        clear hid H8 HB HK
        go_wp2_with fail
        go_roundw
        case rel => exact ⟨k + 1, by go_num, by omega, HF.out⟩
        case measure => simp [intOf]; omega
    · have HE : Hid (Z = 0) := by
        show _ = _
        have := idxP_miss (isId was) l (fun i x hx => HB.out.1 i x (by
          have hi : i < l.length := (List.getElem?_eq_some_iff.1 hx).1
          have := HN.out; omega) hx)
        rw [← HZ.out, this, if_pos (by omega)]
      go_wp2_with fail
      rw [hQ.out]
      go_ret
      exact ⟨by rw [HE.out]; rfl, HB.out.2⟩
theorem bsI_none {l : List Cn} {was : Int} (h : idxP isPf l = -1) (h2 : idxP (isId was) l = -1) : bsI l was = 0 := by
  unfold bsI
  rw [h, h2]
  simp
theorem bsI_id {l : List Cn} {was : Int} {k : Nat} {c c0 : Cn} (h : idxP isPf l = -1) (hk : l[k]? = some c) (h0 : l[0]? = some c0) (hc : c.id = was) (hn : ∀ (i : Nat) x, i < k → l[i]? = some x → isId was x = false) : bsI l was = if c.s = c0.s then (k : Int) else 0 := by
  have e := idxP_hit (isId was) l k c hk (by unfold isId; simpa using hc) hn
  have e0 : fs l = c0 := getD_at h0
  unfold bsI
  rw [h, e, if_neg (by omega), Int.toNat_natCast, getD_at hk, e0]
  by_cases hs : c.s = c0.s
  · rw [if_pos ⟨by omega, hs⟩, if_pos hs]
  · rw [if_neg (fun q => hs q.2), if_neg hs]
set_option maxRecDepth 20000 in
set_option maxHeartbeats 4000000 in
theorem rbest_any (v : Value) (l : List Cn) (was : Int) (w : World) (N : Nat) (h : Rk N w 7 v (l.map cnL)) (hN : N ≤ w.heap.size) (hl : l.length ≤ 1000) : Calls Try.prog 10 #[v, .int .i64 was] w fun e w' => e = .returned (.tuple #[.agg (cnL (bsC l was)).toArray, .bool (bsO l)]) ∧ Below w.heap.size w w' := by
  obtain ⟨ao, cap, hx, hcap, hr⟩ := cands_read h
  obtain ⟨n, hn⟩ : ∃ n, l.length = n := ⟨_, rfl⟩
  rw [hn] at hx hl
  have HR : Hid (∀ w', Below w.heap.size w w' → ∀ (i : Nat) c, l[i]? = some c → ∃ ad, ao = some ad ∧ ∀ j u, (cnL c)[j]? = some u → w'.cell? ((ad.add (i * 7)).add j) = some u) := fun w' hb i c hc => by
    obtain ⟨ad, h1, h2, h3⟩ := hr w' (below_cells hb hN) i c hc
    exact ⟨ad, h1, h3⟩
  have HN : Hid (l.length = n) := hn
  subst hx
  have hn3 : (n : Int) ≤ 1000 := by omega
  have HBO : Hid (bsO l = decide ((0 : Int) < n)) := by
    show _ = _
    unfold bsO
    cases l with
    | nil => simp at hn; subst hn; rfl
    | cons a b => simp at hn; simp; omega
  have HAt : Hid (∀ (k : Nat) c, l[k]? = some c → bsI l was = (k : Int) → bsC l was = c ∧ bsO l = true) := fun k c hc hk => by
    have hne : l ≠ [] := fun e => by rw [e] at hc; simp at hc
    unfold bsC bsO
    rw [if_neg hne, hk, Int.toNat_natCast, getD_at hc]
    refine ⟨rfl, ?_⟩
    cases l with
    | nil => exact absurd rfl hne
    | cons a b => rfl
  clear h hN hl hr hcap hn
  go_enter Try.func10, Try.ntmps10
  refine post_hid fun Q hQ => ?_
  go_upto_region 1 with (refine step_alL (by rfl) 27 rfl (cnL zCn).toArray (fun u => by kernel_rfl) ?_; intro w1 gr H1)
  have HW : Hid (Below w.heap.size w w1 ∧ Bk gr w1 (cnL zCn).toArray 27 ∧ w.heap.size ≤ gr) := ⟨H1.out.be, H1.out.bk, by have := H1.out.at'; omega⟩
  clear H1
  go_wp2_with fail
  go_loopw [7, 12] (fun _ i wr => ∃ k : Nat, i = .int .i64 k ∧ (k : Int) ≤ n ∧ Hid ((∀ (i : Nat) x, i < k → l[i]? = some x → isPf x = false) ∧ Below w1.heap.size w1 wr)) (fun _ i _ => n - (intOf i).toNat)
  case atStart => exact ⟨0, rfl, by omega, fun i x hi => absurd hi (by omega), Below.refl _ _⟩
  case round =>
    obtain ⟨k, rfl, hk, HB⟩ := hrel
    by_cases hlt : (k : Int) < n
    · have hkl : k < l.length := by have := HN.out; omega
      obtain ⟨c, hc⟩ : ∃ c, l[k]? = some c := ⟨_, List.getElem?_eq_getElem hkl⟩
      obtain ⟨ad, g1, g3⟩ := HR.out wr (below_thru HW.out.1 HB.out.2) k c hc
      have hix := ix_C n cap k g1 hlt
      have HS : Hid (∀ j u, (cnL c)[j]? = some u → wr.cell? ((ad.add (k * 7)).add j) = some u) := g3
      have HK : Hid (l[k]? = some c) := hc
      clear g1 g3 hc hkl
      go_upto_region 4 with (first
        | (refine step_ldat 27 _ rfl rfl (ad.add (k * 7)) (by rfl) (cnL c) _ Try.underlying27 rfl (by kernel_rfl) HS.out ?_)
        | (refine step_alL (by rfl) 27 rfl (cnL zCn).toArray (fun u => by kernel_rfl) ?_; intro w6 g H6)
        | (refine step_stL (by rfl) _ _ rfl g (cnL c).toArray (by rfl) (by rfl) (cnL zCn).toArray (by kernel_rfl) (by kernel_rfl) (by kernel_rfl) H6.out.bk ?_; intro w7 H7))
      have H8 : Hid (Below w1.heap.size w1 w7 ∧ Bk g w7 (cnL c).toArray 27) := ⟨below_thru HB.out.2 (H7.out.below H6.out.be H6.out.be.size (Nat.le_of_eq H6.out.at'.symm)), H7.out.bk⟩
      have q5 : w7.cell? ⟨g, 5, none⟩ = some (.bool c.pf) := H8.out.2.cell 5
      obtain ⟨X, hX⟩ : ∃ X, c.pf = X := ⟨_, rfl⟩
      have HX : Hid (c.pf = X) := hX
      rw [hX] at q5
      clear H6 H7 HS hix hX
      cases X
      · have HF : Hid ((∀ (i : Nat) x, i < k + 1 → l[i]? = some x → isPf x = false) ∧ Below w1.heap.size w1 w7) := by
          refine ⟨fun i x hi hx => ?_, H8.out.1⟩
          by_cases e : i = k
          · subst e
            rw [HK.out] at hx
            injection hx with hx
            subst hx
            exact HX.out
          · exact HB.out.1 i x (by omega) hx
        clear H8 HB HK HX
        go_wp2_with fail
        go_roundw
        case rel => exact ⟨k + 1, by go_num, by omega, HF.out⟩
        case measure => simp [intOf]; omega
      · have HE : Hid (bsC l was = c ∧ bsO l = true) := by
          have h0 := idxP_hit isPf l k c HK.out HX.out HB.out.1
          refine HAt.out k c HK.out ?_
          unfold bsI
          rw [h0, if_pos (by omega)]
        have HG : Hid (Bk gr w7 (cnL zCn).toArray 27 ∧ Below w.heap.size w w7) := ⟨HW.out.2.1.kept (H8.out.1.block _ HW.out.2.1.lt), below_thru HW.out.1 H8.out.1⟩
        have HSc : Hid (∀ j u, (cnL c)[j]? = some u → w7.cell? ((⟨g, 0, none⟩ : Addr).add j) = some u) := cells_of (l := cnL c) H8.out.2
        clear HB HK
        go_wp2_with (first
          | (refine step_ldat 27 _ rfl rfl ⟨g, 0, none⟩ (by rfl) (cnL c) _ Try.underlying27 rfl (by kernel_rfl) HSc.out ?_)
          | (refine step_stL (by rfl) _ _ rfl gr (cnL c).toArray (by rfl) (by rfl) (cnL zCn).toArray (by kernel_rfl) (by kernel_rfl) (by kernel_rfl) HG.out.1 ?_; intro w8 H9))
        rw [hQ.out]
        refine bodyPost_ret (v := .tuple #[.agg (cnL c).toArray, .bool true]) (results_ct Try.results10 _ _ gr _ (cnL c) _ _ (by rfl) (by rfl) H9.out.bk Try.underlying27 rfl (by kernel_rfl)) rfl ⟨by rw [HE.out.1, HE.out.2], ?_⟩
        exact H9.out.below HG.out.2 HG.out.2.size HW.out.2.2
    · have HM : Hid (idxP isPf l = -1) := idxP_miss isPf l (fun i x hx => HB.out.1 i x (by
          have hi : i < l.length := (List.getElem?_eq_some_iff.1 hx).1
          have := HN.out; omega) hx)
      have HB1 : Hid (Below w1.heap.size w1 wr) := HB.out.2
      clear HB hk
      obtain ⟨w2, hw2⟩ : ∃ w2, wr = w2 := ⟨_, rfl⟩
      rw [hw2] at HB1 ⊢
      clear hw2
      go_upto_block 2 with fail
      clear hlt
      have HW2 : Hid (Below w.heap.size w w2 ∧ Bk gr w2 (cnL zCn).toArray 27) := ⟨below_thru HW.out.1 HB1.out, HW.out.2.1.kept (HB1.out.block _ HW.out.2.1.lt)⟩
      clear HB1
      go_cut [9] from 22 to 38 (fun _ wx => Hid (Below w2.heap.size w2 wx ∧ (0 < l.length → bsI l was = 0)))
      case first =>
        go_wp2_with fail
        go_loopw [9, 22] (fun _ i wr => ∃ k : Nat, i = .int .i64 k ∧ (k : Int) ≤ n ∧ Hid ((∀ (i : Nat) x, i < k → l[i]? = some x → isId was x = false) ∧ Below w2.heap.size w2 wr)) (fun _ i _ => n - (intOf i).toNat)
        case atStart => exact ⟨0, rfl, by omega, fun i x hi => absurd hi (by omega), Below.refl _ _⟩
        case round =>
          obtain ⟨m, rfl, hm, HB⟩ := hrel
          by_cases hlt : (m : Int) < n
          · have hml : m < l.length := by have := HN.out; omega
            obtain ⟨c, hc⟩ : ∃ c, l[m]? = some c := ⟨_, List.getElem?_eq_getElem hml⟩
            obtain ⟨ad, g1, g3⟩ := HR.out wr (below_thru HW2.out.1 HB.out.2) m c hc
            have hix := ix_C n cap m g1 hlt
            have hix0 : ∀ u, Sem.run Try.prog (Instr.indexAt 22 (.slice ao n cap) (.int .i64 0)) u = .ok (.pointer (some ad)) u := fun u => by
              have := ix_C n cap 0 g1 (by omega) u
              rw [Nat.zero_mul, add_zero'] at this
              exact this
            obtain ⟨c0, hc0⟩ : ∃ c, l[0]? = some c := ⟨_, List.getElem?_eq_getElem (by omega)⟩
            have HS0 : Hid (∀ u, Below w2.heap.size w2 u → u.cell? ⟨ad.block, ad.off + 4, none⟩ = some (.int .i64 c0.s)) := fun u hu => by
              obtain ⟨ad3, e1, e2⟩ := HR.out u (below_thru HW2.out.1 hu) 0 c0 hc0
              rw [← Option.some.inj (g1.symm.trans e1)] at e2
              have := e2 4 (.int .i64 c0.s) rfl
              rw [Nat.zero_mul, add_zero'] at this
              simpa [Addr.add] using this
            have HS : Hid (∀ j u, (cnL c)[j]? = some u → wr.cell? ((ad.add (m * 7)).add j) = some u) := g3
            have HK : Hid (l[m]? = some c ∧ l[0]? = some c0) := ⟨hc, hc0⟩
            clear g1 g3 hc hml hc0
            go_upto_region 10 with (first
              | (refine step_ldat 27 _ rfl rfl (ad.add (m * 7)) (by rfl) (cnL c) _ Try.underlying27 rfl (by kernel_rfl) HS.out ?_)
              | (refine step_alL (by rfl) 27 rfl (cnL zCn).toArray (fun u => by kernel_rfl) ?_; intro w6 g H6)
              | (refine step_stL (by rfl) _ _ rfl g (cnL c).toArray (by rfl) (by rfl) (cnL zCn).toArray (by kernel_rfl) (by kernel_rfl) (by kernel_rfl) H6.out.bk ?_; intro w7 H7))
            have H8 : Hid (Below w2.heap.size w2 w7 ∧ Bk g w7 (cnL c).toArray 27) := ⟨below_thru HB.out.2 (H7.out.below H6.out.be H6.out.be.size (Nat.le_of_eq H6.out.at'.symm)), H7.out.bk⟩
            have q0 : w7.cell? ⟨g, 0, none⟩ = some (.int .i64 c.id) := H8.out.2.cell 0
            clear H6 H7 HS hix
            by_cases hid : c.id = was
            · have HI : Hid (bsI l was = if c.s = c0.s then (m : Int) else 0) := bsI_id HM.out HK.out.1 HK.out.2 hid HB.out.1
              have hb : (c.id == was) = true := by simpa using hid
              clear hid HB
              go_wp2_with fail
              refine wp_region_grown (by kernel_rfl) (by kernel_rfl) ?_
              intro C hC hG
              have a1 : Hid (∀ u, C u → u.cell? ⟨g, 4, none⟩ = some (.int .i64 c.s)) := fun u hu => (H8.out.2.kept ((hC u hu).block _ H8.out.2.lt)).cell 4
              have a2 : Hid (∀ u, C u → u.cell? ⟨ad.block, ad.off + 4, none⟩ = some (.int .i64 c0.s)) := fun u hu => HS0.out u (below_thru H8.out.1 (hC u hu))
              refine QW.out ?_
              repeat (first
                | (refine qa_valW (by rfl) ?_; apply Exists.intro; refine ⟨fun u hu => ?_, ?_⟩; ((have e2 := a1.out u hu; have e10 := a2.out u hu); go_simp; exact rfl); try go_simp)
                | (refine qw_step (fun K hK => ?_); go_simp; refine hK _ ?_; clear hK K))
              refine qw_nil ?_
              intro u hu
              have HF : Hid (Below w2.heap.size w2 u ∧ Bk g u (cnL c).toArray 27) := ⟨below_thru H8.out.1 hu, H8.out.2.kept (hu.block _ H8.out.2.lt)⟩
              clear a1 a2 hC hG hu H8 HS0 q0
              by_cases hs : c.s = c0.s
              · have HE : Hid (bsC l was = c ∧ bsO l = true) := HAt.out m c HK.out.1 (by rw [HI.out, if_pos hs])
                have HG : Hid (Bk gr u (cnL zCn).toArray 27 ∧ Below w.heap.size w u) := ⟨HW2.out.2.kept (HF.out.1.block _ HW2.out.2.lt), below_thru HW2.out.1 HF.out.1⟩
                have HSc : Hid (∀ j v, (cnL c)[j]? = some v → u.cell? ((⟨g, 0, none⟩ : Addr).add j) = some v) := cells_of (l := cnL c) HF.out.2
                have hsb : (c.s == c0.s) = true := by simpa using hs
                clear hs HK HI
                go_wp2_with (first
                  | (refine step_ldat 27 _ rfl rfl ⟨g, 0, none⟩ (by rfl) (cnL c) _ Try.underlying27 rfl (by kernel_rfl) HSc.out ?_)
                  | (refine step_stL (by rfl) _ _ rfl gr (cnL c).toArray (by rfl) (by rfl) (cnL zCn).toArray (by kernel_rfl) (by kernel_rfl) (by kernel_rfl) HG.out.1 ?_; intro w8 H9))
                rw [hQ.out]
                refine bodyPost_ret (v := .tuple #[.agg (cnL c).toArray, .bool true]) (results_ct Try.results10 _ _ gr _ (cnL c) _ _ (by rfl) (by rfl) H9.out.bk Try.underlying27 rfl (by kernel_rfl)) rfl ⟨by rw [HE.out.1, HE.out.2], ?_⟩
                exact H9.out.below HG.out.2 HG.out.2.size HW.out.2.2
              · have hsb : (c.s == c0.s) = false := by simpa using hs
                have HZ : Hid (bsI l was = 0) := by show _ = _; rw [HI.out, if_neg hs]
                clear hs HK HI
                go_wp2_with fail
                go_meet
                case rel => exact ⟨HF.out.1, fun _ => HZ.out⟩
            · have hb : (c.id == was) = false := by simpa using hid
              have HF : Hid ((∀ (i : Nat) x, i < m + 1 → l[i]? = some x → isId was x = false) ∧ Below w2.heap.size w2 w7) := by
                refine ⟨fun i x hi hx => ?_, H8.out.1⟩
                by_cases e : i = m
                · subst e
                  rw [HK.out.1] at hx
                  injection hx with hx
                  subst hx
                  unfold isId; simpa using hid
                · exact HB.out.1 i x (by omega) hx
              clear hid H8 HB HK hix0
              go_wp2_with fail
              go_roundw
              case rel => exact ⟨m + 1, by go_num, by omega, HF.out⟩
              case measure => simp [intOf]; omega
          · have HZ : Hid (bsI l was = 0) := bsI_none HM.out (idxP_miss (isId was) l (fun i x hx => HB.out.1 i x (by
              have hi : i < l.length := (List.getElem?_eq_some_iff.1 hx).1
              have := HN.out; omega) hx))
            go_wp2_with fail
            go_meet
            case rel => exact ⟨HB.out.2, fun _ => HZ.out⟩
      case rest =>
        have HG : Hid (Bk gr wc (cnL zCn).toArray 27 ∧ Below w.heap.size w wc) := ⟨HW2.out.2.kept (hcut.out.1.block _ HW2.out.2.lt), below_thru HW2.out.1 hcut.out.1⟩
        by_cases hp : (0 : Int) < n
        · obtain ⟨c0, hc0⟩ : ∃ c, l[0]? = some c := ⟨_, List.getElem?_eq_getElem (by have := HN.out; omega)⟩
          obtain ⟨ad, g1, g3⟩ := HR.out wc HG.out.2 0 c0 hc0
          have hix0 : ∀ u, Sem.run Try.prog (Instr.indexAt 22 (.slice ao n cap) (.int .i64 0)) u = .ok (.pointer (some ad)) u := fun u => by
            have := ix_C n cap 0 g1 (by omega) u
            rw [Nat.zero_mul, add_zero'] at this
            exact this
          have HS : Hid (∀ j u, (cnL c0)[j]? = some u → wc.cell? (ad.add j) = some u) := by
            rw [Nat.zero_mul, add_zero'] at g3
            exact g3
          have HE : Hid (bsC l was = c0 ∧ bsO l = true) := HAt.out 0 c0 hc0 (by rw [hcut.out.2 (by have := HN.out; omega)]; rfl)
          have hpb : 0 < n := by omega
          clear g1 g3 hc0 hcut hp
          go_wp2_with (first
            | (refine step_ldat 27 _ rfl rfl ad (by rfl) (cnL c0) _ Try.underlying27 rfl (by kernel_rfl) HS.out ?_)
            | (refine step_stL (by rfl) _ _ rfl gr (cnL c0).toArray (by rfl) (by rfl) (cnL zCn).toArray (by kernel_rfl) (by kernel_rfl) (by kernel_rfl) HG.out.1 ?_; intro w8 H9))
          rw [hQ.out]
          refine bodyPost_ret (v := .tuple #[.agg (cnL c0).toArray, .bool true]) (results_ct Try.results10 _ _ gr _ (cnL c0) _ _ (by rfl) (by rfl) H9.out.bk Try.underlying27 rfl (by kernel_rfl)) rfl ⟨by rw [HE.out.1, HE.out.2], ?_⟩
          exact H9.out.below HG.out.2 HG.out.2.size HW.out.2.2
        · have hn0 : n = 0 := by omega
          have HE : Hid (bsC l was = zCn ∧ bsO l = false) := by
            have hl0 : l = [] := List.length_eq_zero_iff.1 (by have := HN.out; omega)
            rw [hl0]
            exact ⟨rfl, rfl⟩
          subst hn0
          clear hp
          go_wp2_with (refine step_stL (by rfl) _ _ rfl gr (cnL zCn).toArray (by rfl) (by rfl) (cnL zCn).toArray (by kernel_rfl) (by kernel_rfl) (by kernel_rfl) HG.out.1 ?_; intro w8 H9)
          rw [hQ.out]
          refine bodyPost_ret (v := .tuple #[.agg (cnL zCn).toArray, .bool false]) (results_ct Try.results10 _ _ gr _ (cnL zCn) _ _ (by rfl) (by rfl) H9.out.bk Try.underlying27 rfl (by kernel_rfl)) rfl ⟨by rw [HE.out.1, HE.out.2], ?_⟩
          exact H9.out.below HG.out.2 HG.out.2.size HW.out.2.2
end Go.Proofs.Ytdlipponajilbaa
/- The reference: Cluster. -/
namespace Go.Proofs.Ytdlipponajilbaa
open Go Go.RowKit Go.Sort
set_option linter.unusedVariables false
theorem osl_take {w : World} {B : Nat} {ao : Option Addr} {cap n : Nat} {l : List Cn} (h : OR w B 27 7 (.slice ao n cap) (l.map cnL)) (b : Nat) (hb : b ≤ l.length) :
    ∃ ao' cap', (∀ u, (Instr.slice 22 (.slice ao n cap) none (some (.int .i64 (b : Int))) none).run Try.prog u = .ok (.slice ao' b cap') u) ∧ OR w B 27 7 (.slice ao' b cap') ((l.take b).map cnL) := by
  obtain ⟨ao', cap', h1, _⟩ := csl_take h.rk b hb
  refine ⟨ao', cap', h1, ?_⟩
  have e0 : Instr.slice 22 (.slice ao n cap) none (some (.int .i64 (b : Int))) none = Instr.slice 22 (.slice ao n cap) none (some (.int .i64 (b : Int))) none := rfl
  have h2 := h1 w
  rcases h.row.2 with ⟨q1, q2⟩ | ⟨g, cp, cur, q1, q2, q3, q4, q5, q6, q7⟩
  · injection q1 with q3 q4 q5
    subst q3 q4 q5
    rw [List.length_map] at q2
    have hb0 : b = 0 := by omega
    subst hb0
    simp [Instr.slice, Instr.sliceBounds, Instr.sliceBound, asIntOf, run_underlying Try.underlying22] at h2
    obtain ⟨r1, r2⟩ := h2
    subst r1 r2
    rw [List.take_zero]
    exact OR.nil _ _ _ _
  · rw [List.length_map] at q1 q4 q7
    injection q1 with r1 r2 r3
    subst r1 r2 r3
    have hbc : b ≤ cap := by omega
    simp [Instr.slice, Instr.sliceBounds, Instr.sliceBound, asIntOf, run_underlying Try.underlying22, hbc] at h2
    obtain ⟨r1, r2⟩ := h2
    subst r1 r2
    have hlen : ∀ r ∈ l.map cnL, r.length = 7 := cl_len' l
    have hfl := flat_take hlen b
    refine ⟨⟨?_, .inr ⟨g, cap, cur, ?_, q2, q3, ?_, q5, q6, ?_⟩⟩, cl_len' _⟩
    · rw [flat_len (cl_len' _)]
    · rw [List.length_map, List.length_take, Nat.min_eq_left hb, add_zero', ite_self]
    · rw [List.length_map, List.length_take, Nat.min_eq_left hb]; exact hbc
    · rw [List.map_take, hfl, ← q7, List.take_take, List.length_take, List.length_map, Nat.min_eq_left hb, Nat.min_eq_left (Nat.mul_le_mul_right _ hb)]
theorem wst_neg (l : List Cn) : ∀ k, (wst l k).1 < 0 → (wst l k).2 = 0
  | 0, _ => by unfold wst; rfl
  | k + 1, h => by
    have ih := wst_neg l k
    unfold wst at h ⊢
    split at h
    · simp only at h; omega
    · rename_i q; rw [if_neg q]; exact ih h
set_option maxRecDepth 20000 in
set_option maxHeartbeats 4000000 in
theorem rcluster_any (v : Value) (l : List Cn) (w : World) (N : Nat) (h : Rk N w 7 v (l.map cnL)) (hN : N ≤ w.heap.size) (hl : l.length ≤ 1000) (ok : ∀ c ∈ l, okC c) : Calls Try.prog 12 #[v] w fun e w' => ∃ u, e = .returned u ∧ Hid (OR w' w.heap.size 27 7 u ((clu l).map cnL)) ∧ Hid (Below w.heap.size w w') := by
  have HB0 : Hid (Calls Try.prog 33 #[v] w fun e w' => ∃ u, e = .returned u ∧ Hid (OR w' w.heap.size 27 7 u ((St.st ltc l).map cnL)) ∧ Hid (Below w.heap.size w w')) := rsorted_any v l w N h hN hl ok
  obtain ⟨X, hX⟩ : ∃ X, (St.st ltc l).take 10 = X := ⟨_, rfl⟩
  have HX : Hid (clu l = clN 10 X ∧ X.length ≤ 10 ∧ ∀ c ∈ X, okC c) := ⟨by unfold clu; rw [hX], by rw [← hX, List.length_take]; omega, by rw [← hX]; exact st_ok ok 10⟩
  obtain ⟨n, hn⟩ : ∃ n, l.length = n := ⟨_, rfl⟩
  obtain ⟨m, hm⟩ : ∃ m : Nat, m = min n 10 := ⟨_, rfl⟩
  have hmin : min (n : Int) 10 = (m : Int) := by omega
  have HM : Hid ((St.st ltc l).take m = X ∧ X.length = m ∧ (St.st ltc l).length = n) := by
    have h1 : (St.st ltc l).length = n := by rw [St.st_len, hn]
    have h2 : (St.st ltc l).take m = X := by
      rw [← hX, hm]
      rcases Nat.le_total n 10 with q | q
      · rw [Nat.min_eq_left q, List.take_of_length_le (by omega), List.take_of_length_le (by omega)]
      · rw [Nat.min_eq_right q]
    exact ⟨h2, by rw [← h2, List.length_take]; omega, h1⟩
  have hl' : (n : Int) ≤ 1000 := by omega
  have hmn : (m : Int) ≤ n := by omega
  clear h hN hl ok hX hn hm
  go_enter Try.func12, Try.ntmps12
  refine post_hid fun Q hQ => ?_
  go_upto_region 2 with (go_at_call 33; refine HB0.out.mono ?_; rintro e w1 ⟨u1, rfl, H1, H2⟩)
  obtain ⟨ao1, cap1, hu1⟩ := or_len H1.out
  rw [List.length_map, HM.out.2.2] at hu1
  subst hu1
  obtain ⟨ao2, cap2, hrun, hk2⟩ := osl_take H1.out m (by rw [HM.out.2.2]; omega)
  have HK2 : Hid (OR w1 w.heap.size 27 7 (.slice ao2 m cap2) (X.map cnL)) := by rw [HM.out.1] at hk2; exact hk2
  have hm10 : (m : Int) ≤ 10 := by omega
  clear hk2 H1 HB0
  go_wp2_with fail
  clear hmin hrun hmn hl'
  go_loopw [3, 4, 5, 6, 7, 8, 9, 10] (fun v3 _ _ _ _ _ _ _ wr => ∃ (ao : Option Addr) (n cap : Nat), v3 = .slice ao n cap ∧ (n : Int) ≤ 10 ∧ Hid (∃ (k : Nat) (Y : List Cn), n = Y.length ∧ Y.length ≤ k ∧ (∀ c ∈ Y, okC c) ∧ clN k Y = clu l ∧ OR wr w.heap.size 27 7 (.slice ao n cap) (Y.map cnL) ∧ Below w.heap.size w wr)) (fun v3 _ _ _ _ _ _ _ _ => slnV v3)
  case atStart => exact ⟨ao2, m, cap2, rfl, hm10, ⟨10, X, HM.out.2.1.symm, HX.out.2.1, HX.out.2.2, HX.out.1.symm, HK2.out, H2.out⟩⟩
  case round =>
    obtain ⟨ao, n, cap, rfl, hn, HB⟩ := hrel
    clear hm10 HM HK2
    obtain ⟨wo, hwo⟩ : ∃ wo, wr = wo := ⟨_, rfl⟩
    rw [hwo] at HB ⊢
    clear hwo
    obtain ⟨k, Y, hY⟩ := HB.out
    have HY : Hid (n = Y.length ∧ Y.length ≤ k ∧ (∀ c ∈ Y, okC c) ∧ clN k Y = clu l ∧ OR wo w.heap.size 27 7 (.slice ao n cap) (Y.map cnL) ∧ Below w.heap.size w wo) := hY
    clear hY HB
    by_cases h3 : (3 : Int) < n
    · obtain ⟨ao', cap', hx, hcap, hr⟩ := cands_read HY.out.2.2.2.2.1.rk
      injection hx with x1 x2 x3
      subst x1 x3
      clear x2
      obtain ⟨ad, had, _, hjunk⟩ := hr wo (fun _ _ => rfl) 0 _ (List.getElem?_eq_getElem (by have := HY.out.1; omega))
      clear hjunk
      subst had
      have HR : Hid (∀ u, Below wo.heap.size wo u → ∀ (i : Nat) c, Y[i]? = some c → ∀ j x, (cnL c)[j]? = some x → u.cell? ((ad.add (i * 7)).add j) = some x) := fun u hb i c hc => by
        obtain ⟨ad3, h1, h2, h3⟩ := hr u (below_cells hb (Nat.le_refl _)) i c hc
        rw [← Option.some.inj h1] at h3
        exact h3
      have HJ : Hid (∀ k : Nat, k < n → ∀ u, Below wo.heap.size wo u → Calls Try.prog 31 #[.slice (some ad) n cap, .int .i64 (k : Int)] u fun e w' => e = .returned (.int .i64 (sj Y k)) ∧ Below u.heap.size u w') := fun k hk u hb => rjitter_any _ Y k u _ (HY.out.2.2.2.2.1.rk.below hb (Nat.le_refl _)) hb.size (by have := HY.out.1; omega) HY.out.2.2.1 (by have := HY.out.1; omega)
      obtain ⟨c0, hc0⟩ : ∃ c, Y[0]? = some c := ⟨_, List.getElem?_eq_getElem (by have := HY.out.1; omega)⟩
      have q3 : wo.cell? ⟨ad.block, ad.off + 3, none⟩ = some (.int .i64 c0.j) := by
        have := HR.out wo (Below.refl _ _) 0 c0 hc0 3 (.int .i64 c0.j) rfl
        rw [Nat.zero_mul, add_zero'] at this
        simpa [Addr.add] using this
      have hix0 : ∀ u, Sem.run Try.prog (Instr.indexAt 22 (.slice (some ad) n cap) (.int .i64 0)) u = .ok (.pointer (some ad)) u := fun u => by
        have := ix_C (ao := some ad) (ad := ad) n cap 0 rfl (by omega) u
        rw [Nat.zero_mul, add_zero'] at this
        exact this
      have HQ0 : Hid (qut Y 0 = c0.j) := by show _ = _; unfold qut; rw [getD_at hc0]
      clear hr hc0 hcap
      go_upto_region 4 with fail
      go_region_held3 (fun w' => w'.cell? ⟨ad.block, ad.off + 3, none⟩ = some (.int .i64 c0.j)) (first | with_reducible exact q3 | go_keep) (fail)
      clear hix0 q3
      have HQ1 : Hid (qut Y 0 = c0.j ∧ wst Y 0 = (-1, 0)) := ⟨HQ0.out, by unfold wst; rfl⟩
      have HBd : Hid (Below wo.heap.size wo wo.drew) := (Below.refl _ _).drew
      go_wp2_with fail
      go_loopw [4, 5, 6, 7, 8, 9, 27] (fun p q z _ _ _ i wr => ∃ j : Nat, i = .int .i64 j ∧ (j : Int) ≤ n ∧ p = .int .i64 (wst Y j).1 ∧ q = .int .i64 (wst Y j).2 ∧ z = .int .i64 (qut Y j) ∧ Hid (Below wo.heap.size wo wr)) (fun _ _ _ _ _ _ i _ => n - (intOf i).toNat)
      case atStart => exact ⟨0, rfl, by omega, by rw [HQ1.out.2], by rw [HQ1.out.2], by rw [HQ1.out.1], HBd.out⟩
      case round =>
        obtain ⟨j, rfl, hj, rfl, rfl, rfl, HB⟩ := hrel
        obtain ⟨P, hP⟩ : ∃ P, (wst Y j).1 = P := ⟨_, rfl⟩
        obtain ⟨J, hJ⟩ : ∃ J, (wst Y j).2 = J := ⟨_, rfl⟩
        obtain ⟨z, hz⟩ : ∃ z, qut Y j = z := ⟨_, rfl⟩
        have HWj : Hid ((wst Y j).1 = P ∧ (wst Y j).2 = J ∧ qut Y j = z) := ⟨hP, hJ, hz⟩
        rw [hP, hJ, hz]
        clear hP hJ hz HQ0 HQ1
        by_cases hlt : (j : Int) < n
        · obtain ⟨c, hc⟩ : ∃ c, Y[j]? = some c := ⟨_, List.getElem?_eq_getElem (by have := HY.out.1; omega)⟩
          have hix := ix_C (ao := some ad) (ad := ad) n cap j rfl hlt
          have HS : Hid (∀ i u, (cnL c)[i]? = some u → wr.cell? ((ad.add (j * 7)).add i) = some u) := HR.out wr HB.out j c hc
          obtain ⟨X, hX⟩ : ∃ X, c.pf = X := ⟨_, rfl⟩
          obtain ⟨Z, hZ⟩ : ∃ Z, sj Y j = Z := ⟨_, rfl⟩
          obtain ⟨T, hT⟩ : ∃ T, min z c.j = T := ⟨_, rfl⟩
          have HN2 : Hid (qut Y (j + 1) = T) := by
            show min (qut Y j) (Y.getD j zCn).j = _
            rw [HWj.out.2.2, getD_at hc, hT]
          have HWn : Hid (wst Y (j + 1) = if X = false ∧ J ≤ Z then ((j : Int), Z) else (P, J)) := by
            show (if (Y.getD j zCn).pf = false ∧ (wst Y j).2 ≤ sj Y j then ((j : Int), sj Y j) else wst Y j) = _
            rw [getD_at hc, hX, HWj.out.2.1, hZ, show wst Y j = (P, J) from by rw [← HWj.out.1, ← HWj.out.2.1]]
          have HPn : Hid ((P < 0 → J ≤ Z)) := fun hp => by
            have h1 := wst_neg Y j (by rw [HWj.out.1]; exact hp)
            have h2 := sj_bd Y j
            rw [HWj.out.2.1] at h1
            omega
          have HCj : Hid (∀ u, Below wo.heap.size wo u → Calls Try.prog 31 #[.slice (some ad) n cap, .int .i64 (j : Int)] u fun e w' => e = .returned (.int .i64 Z) ∧ Below u.heap.size u w') := fun u hu => by rw [← hZ]; exact HJ.out j (by omega) u hu
          have hTm : min z c.j = T := hT
          clear hc hZ hT
          go_upto_region 8 with (first
            | (refine step_ldat 27 _ rfl rfl (ad.add (j * 7)) (by rfl) (cnL c) _ Try.underlying27 rfl (by kernel_rfl) HS.out ?_)
            | (refine step_alL (by rfl) 27 rfl (cnL zCn).toArray (fun u => by kernel_rfl) ?_; intro w6 g H6)
            | (refine step_stL (by rfl) _ _ rfl g (cnL c).toArray (by rfl) (by rfl) (cnL zCn).toArray (by kernel_rfl) (by kernel_rfl) (by kernel_rfl) H6.out.bk ?_; intro w7 H7))
          have H8 : Hid (Below wo.heap.size wo w7 ∧ Bk g w7 (cnL c).toArray 27) := ⟨below_thru HB.out (H7.out.below H6.out.be H6.out.be.size (Nat.le_of_eq H6.out.at'.symm)), H7.out.bk⟩
          have q3 : w7.cell? ⟨g, 3, none⟩ = some (.int .i64 c.j) := H8.out.2.cell 3
          have HX5 : Hid (c.pf = X) := hX
          clear H6 H7 HS hix HB hX
          go_upto_region 10 with (go_at_call 31; refine (HCj.out _ H8.out.1).mono ?_; rintro e w9 ⟨rfl, h9⟩)
          have q5 : w9.cell? ⟨g, 5, none⟩ = some (.bool X) := by rw [← HX5.out]; exact (H8.out.2.kept (h9.block _ H8.out.2.lt)).cell 5
          have H9 : Hid (Below wo.heap.size wo w9) := below_thru H8.out.1 h9
          clear h9 q3 H8 HCj
          cases X
          · by_cases hJZ : J ≤ Z
            · have HF : Hid (wst Y (j + 1) = ((j : Int), Z)) := by show _ = _; rw [HWn.out, if_pos ⟨rfl, hJZ⟩]
              by_cases hPn : P < 0
              all_goals
                go_wp2_with fail
                go_roundw
                case rel => exact ⟨j + 1, by go_num, by omega, by rw [HF.out], by rw [HF.out], by rw [HN2.out], H9.out⟩
                case measure => simp [intOf]; omega
            · have hPn : ¬ P < 0 := fun q => hJZ (HPn.out q)
              have HF : Hid (wst Y (j + 1) = (P, J)) := by show _ = _; rw [HWn.out, if_neg (fun q => hJZ q.2)]
              go_wp2_with fail
              go_roundw
              case rel => exact ⟨j + 1, by go_num, by omega, by rw [HF.out], by rw [HF.out], by rw [HN2.out], H9.out⟩
              case measure => simp [intOf]; omega
          · have HF : Hid (wst Y (j + 1) = (P, J)) := by show _ = _; rw [HWn.out, if_neg (fun q => by cases q.1)]
            go_wp2_with fail
            go_roundw
            case rel => exact ⟨j + 1, by go_num, by omega, by rw [HF.out], by rw [HF.out], by rw [HN2.out], H9.out⟩
            case measure => simp [intOf]; omega
        · have hjn : j = n := by omega
          subst hjn
          have HW : Hid (goes Y = if P < 0 ∨ J < z then none else some P.toNat) := by
            show _ = _
            unfold goes
            rw [← HY.out.1, HWj.out.1, HWj.out.2.1, HWj.out.2.2]
          have HRo : Hid (OR wr w.heap.size 27 7 (.slice (some ad) j cap) (Y.map cnL) ∧ Below w.heap.size w wr) := ⟨HY.out.2.2.2.2.1.below HB.out (Nat.le_refl _), below_thru HY.out.2.2.2.2.2 HB.out⟩
          clear HB
          by_cases hneg : P < 0
          · have HE : Hid (clu l = Y) := by
              show _ = _
              rw [← HY.out.2.2.2.1, clN_stay]
              rw [HW.out, if_pos (.inl hneg)]
            go_wp2_with fail
            rw [hQ.out]
            go_ret
            refine ⟨_, rfl, ?_, HRo.out.2⟩
            rw [HE.out]
            exact HRo.out.1
          · by_cases hjq : J < z
            · have HE : Hid (clu l = Y) := by
                show _ = _
                rw [← HY.out.2.2.2.1, clN_stay]
                rw [HW.out, if_pos (.inr hjq)]
              go_wp2_with fail
              rw [hQ.out]
              go_ret
              refine ⟨_, rfl, ?_, HRo.out.2⟩
              rw [HE.out]
              exact HRo.out.1
            · obtain ⟨p, hp⟩ : ∃ p : Nat, P = (p : Int) := ⟨P.toNat, by omega⟩
              subst hp
              have hpj : p < j := by have := wst_bd Y j; rw [HWj.out.1] at this; omega
              have hYl : Y.length = j := HY.out.1.symm
              have HGo : Hid (∃ k', k = k' + 1 ∧ clN k' (Y.eraseIdx p) = clu l ∧ (Y.eraseIdx p).length = j - 1) := by
                have h1 := HY.out.1
                have h2 := HY.out.2.1
                refine ⟨k - 1, by omega, ?_, by rw [List.length_eraseIdx_of_lt (by omega)]; omega⟩
                rw [← HY.out.2.2.2.1, show k = (k - 1) + 1 from by omega, clN_go (by omega) (by rw [HW.out, if_neg (by omega)])]
                rfl
              obtain ⟨p1, hp1⟩ : ∃ p1 : Nat, p1 = p + 1 := ⟨_, rfl⟩
              have hra : Ra (.slice (some ad) j cap) := fun n c e => by injection e with e; cases e
              obtain ⟨o1, c1, hr1, hk1, ha1⟩ := csl_take2 HRo.out.1.rk hra p (by omega)
              obtain ⟨o3, c3, hr3, hk3, ha3⟩ := csl_drop2 HRo.out.1.rk hra p1 (by omega)
              obtain ⟨n3, hn3⟩ : ∃ n3, j - p1 = n3 := ⟨_, rfl⟩
              rw [hn3] at hr3 hk3 ha3
              have HT : Hid (Rk wr.heap.size wr 7 (.slice o1 p c1) ((Y.take p).map cnL) ∧ Ra (.slice o1 p c1) ∧ Rk wr.heap.size wr 7 (.slice o3 n3 c3) ((Y.drop p1).map cnL) ∧ Ra (.slice o3 n3 c3)) := ⟨hk1, ha1, hk3, ha3⟩
              have HEq : Hid (Y.eraseIdx p = Y.take p ++ Y.drop p1) := by show _ = _; rw [hp1]; exact List.eraseIdx_eq_take_drop_succ _ _
              have HLs : Hid ((Y.take p).length ≤ 1000 ∧ (Y.drop p1).length ≤ 1000) := ⟨by rw [List.length_take]; omega, by rw [List.length_drop]; omega⟩
              have hpi : (p : Int) + 1 = (p1 : Int) := by omega
              have hpw : IntKind.i64.wrap ((p : Int) + 1) = (p1 : Int) := by rw [IntKind.wrap_i64]; omega
              have hJw : IntKind.i64.wrap (p1 : Int) = (p1 : Int) := by rw [IntKind.wrap_i64]; omega
              clear hk1 ha1 hk3 ha3 hra hp1 hn3 hpj hYl HW hj
              go_wp2_with (first
                | (at_builtin; refine wpList_appk tiC rfl _ _ rfl wr.heap.size wr.heap.size (.slice none 0 0) (.slice o1 p c1) [] ((Y.take p).map cnL) (by rfl) (by rfl) (OR.nil _ _ _ _) HT.out.1 HT.out.2.1 (cl_len' _) (cl_one' _) ?_ ?_ (Nat.le_refl _) ?_; (have := HLs.out.1; rw [List.length_map]; simp only [maxLen, List.length_nil]; omega); (have := HLs.out.1; rw [List.length_map]; simp only [List.length_nil]; omega); intro v9 w9 h9 k9 _; have H9 : Hid (OR w9 wr.heap.size 27 7 v9 ((Y.take p).map cnL) ∧ Below wr.heap.size wr w9) := ⟨h9, (Below.refl _ _).grown k9 (Nat.le_refl _) (fun q hq => by cases hq)⟩; clear h9 k9)
                | (at_builtin; refine wpList_appk tiC rfl _ _ rfl wr.heap.size wr.heap.size v9 (.slice o3 n3 c3) ((Y.take p).map cnL) ((Y.drop p1).map cnL) (by rfl) (by rfl) H9.out.1 (HT.out.2.2.1.below H9.out.2 (Nat.le_refl _)) HT.out.2.2.2 (cl_len' _) (cl_one' _) ?_ ?_ H9.out.2.size ?_; (have := HLs.out; rw [List.length_map, List.length_map]; simp only [maxLen]; omega); (have := HLs.out; rw [List.length_map, List.length_map]; omega); intro vb wb hb kb _; have HB2 : Hid (OR wb wr.heap.size 27 7 vb ((Y.take p).map cnL ++ (Y.drop p1).map cnL) ∧ Below wr.heap.size wr wb) := ⟨hb, H9.out.2.grown kb H9.out.2.size (fun q hq => H9.out.1.own q hq)⟩; clear hb kb))
              obtain ⟨k', e1, e2, e3⟩ := HGo.out
              have hrows : OR wb wr.heap.size 27 7 vb ((Y.eraseIdx p).map cnL) := by rw [HEq.out, List.map_append]; exact HB2.out.1
              obtain ⟨ao', cap', hvb⟩ := or_len hrows
              rw [List.length_map, e3] at hvb
              subst hvb
              refine ⟨⟨ao', j - 1, cap', rfl, by omega, ⟨k', Y.eraseIdx p, e3.symm, by have := HY.out.2.1; have := HY.out.1; omega, fun c hc => HY.out.2.2.1 c (List.mem_of_mem_eraseIdx hc), e2, hrows.mono HRo.out.2.size, below_thru HRo.out.2 HB2.out.2⟩⟩, ?_⟩
              simp only [slnV]; omega
    · have HE : Hid (clu l = Y) := by
        show _ = _
        rw [← HY.out.2.2.2.1, clN_small (by have := HY.out.1; omega)]
      go_wp2_with fail
      rw [hQ.out]
      go_ret
      refine ⟨_, rfl, ?_, HY.out.2.2.2.2.2⟩
      rw [HE.out]
      exact HY.out.2.2.2.2.1
end Go.Proofs.Ytdlipponajilbaa
/- The reference: Mitigate. -/
namespace Go.Proofs.Ytdlipponajilbaa
open Go Go.RowKit Go.Sort
set_option linter.unusedVariables false
theorem clu_small (l : List Cn) (ok : ∀ c ∈ l, okC c) : (clu l).length ≤ 10 ∧ ∀ c ∈ clu l, okC c := by
  refine ⟨?_, ?_⟩
  · have := clN_len 10 ((St.st ltc l).take 10)
    unfold clu
    rw [List.length_take] at this
    omega
  · have hm : ∀ (n : Nat) (X : List Cn), (∀ c ∈ X, okC c) → ∀ c ∈ clN n X, okC c := by
      intro n
      induction n with
      | zero => intro X hX c hc; exact hX c hc
      | succ n ih =>
        intro X hX c hc
        unfold clN at hc
        split at hc
        · exact hX c hc
        · split at hc
          · exact hX c hc
          · exact ih _ (fun d hd => hX d (List.mem_of_mem_eraseIdx hd)) c hc
    exact hm 10 _ (st_ok ok 10)
theorem gb_thru {a b c : World} {r : Option Nat} (h : a.grownBy b r) (k : Below a.heap.size b c) : a.grownBy c r := ⟨k.os.trans h.os, k.tape.trans h.tape, k.output.trans h.output, Nat.le_trans h.size k.size, fun i hi hr => (k.block i hi).trans (h.block i hi hr)⟩
theorem OR.gb {w w' : World} {B : Nat} {e : TypeId} {k : Nat} {v : Value} {rows : List (List Value)} {r : Option Nat} (h : OR w B e k v rows) (hg : w.grownBy w' r) (hne : v.ownBlock = none ∨ v.ownBlock ≠ r) : OR w' B e k v rows := ⟨World.ownsRow.kept h.row hg hne, h.len⟩
def npB (l : List Cn) : Bool := !(puF l).isEmpty
theorem npB_iff (l : List Cn) : npB l = true ↔ puF l ≠ [] := by unfold npB; cases puF l <;> simp
theorem pu_step {l : List Cn} {k : Nat} {c : Cn} (hc : l[k]? = some c) : (c.pu = false → puF (l.take (k + 1)) = puF (l.take k) ∧ plF (l.take (k + 1)) = plF (l.take k) ++ [c]) ∧ (c.pu = true → plF (l.take (k + 1)) = plF (l.take k) ∧ npB (l.take (k + 1)) = true ∧ fs (puF (l.take (k + 1))) = if npB (l.take k) = true then fs (puF (l.take k)) else c) := by
  rw [take_snoc hc, puF_snoc, plF_snoc]
  refine ⟨fun h => by rw [h]; exact ⟨by simp, by simp⟩, fun h => ?_⟩
  rw [h]
  refine ⟨by simp, ?_, ?_⟩
  · unfold npB; rw [puF_snoc, h]; simp
  · unfold npB fs
    cases e : puF (l.take k) with
    | nil => simp
    | cons a b => simp
theorem bsO_ne {R : List Cn} (h : R ≠ []) : bsO R = true := by unfold bsO; cases R with | nil => exact absurd rfl h | cons a b => rfl
theorem bsC_at {R : List Cn} (was : Int) (h : R ≠ []) : ∃ K : Nat, bsI R was = K ∧ K < R.length ∧ R[K]? = some (bsC R was) := by
  have hp := List.length_pos_iff.2 h
  have hb := bsI_bd was hp
  refine ⟨(bsI R was).toNat, by omega, by omega, ?_⟩
  unfold bsC
  rw [if_neg h, List.getD_eq_getElem?_getD, List.getElem?_eq_getElem (by omega)]
  rfl
theorem mtg_some {P R : List Cn} {was : Int} {K : Nat} {c : Cn} (h : R ≠ []) (hK : bsI R was = K) (hc : R[K]? = some c) : mtg P R was = if P ≠ [] ∧ -1073741824 ≤ c.o ∧ c.o ≤ 1073741824 then alo (fs P) true else if c.pf = true then alo c false else ⟨c.id, cmO (ahd R K), cmJ (ahd R K), true, false⟩ := by
  unfold mtg
  rw [if_neg h]
  simp only [hK, Int.toNat_natCast, getD_at hc]
theorem er_same (R : List Cn) (a : Nat) : (R.take (a + 1)).eraseIdx a = (R.take a).eraseIdx a := by
  rcases Nat.lt_or_ge a R.length with ha | ha
  · rw [List.take_succ_eq_append_getElem ha, List.eraseIdx_append_of_length_le (by rw [List.length_take]; omega), List.length_take, Nat.min_eq_left (by omega), Nat.sub_self, List.eraseIdx_cons_zero, List.append_nil, List.eraseIdx_of_length_le (by rw [List.length_take]; omega)]
  · rw [List.take_of_length_le (by omega), List.take_of_length_le ha]
theorem er_next {R : List Cn} {a k : Nat} {c : Cn} (hk : R[k]? = some c) (ha : k ≠ a) : (R.take (k + 1)).eraseIdx a = (R.take k).eraseIdx a ++ [c] := by
  have hkl : k < R.length := (List.getElem?_eq_some_iff.1 hk).1
  rw [List.getElem?_eq_getElem hkl] at hk
  injection hk with hk
  rw [List.take_succ_eq_append_getElem hkl, hk]
  rcases Nat.lt_or_ge a k with h | h
  · rw [List.eraseIdx_append_of_lt_length (by rw [List.length_take]; omega)]
  · rw [List.eraseIdx_append_of_length_le (by rw [List.length_take]; omega), List.length_take, Nat.min_eq_left (by omega), List.eraseIdx_of_length_le (l := [c]) (by simp; omega), List.eraseIdx_of_length_le (by rw [List.length_take]; omega)]
theorem idxP_at (p : Cn → Bool) : ∀ (l : List Cn) (k : Nat), idxP p l = (k : Int) → (∀ (i : Nat) x, i < k → l[i]? = some x → p x = false) ∧ ∃ c, l[k]? = some c ∧ p c = true
  | [], k, h => by unfold idxP at h; omega
  | a :: l, k, h => by
    unfold idxP at h
    by_cases hp : p a = true
    · rw [if_pos hp] at h
      have : k = 0 := by omega
      subst this
      exact ⟨fun i x hi => absurd hi (by omega), a, rfl, hp⟩
    · rw [if_neg hp] at h
      split at h
      · omega
      · obtain ⟨m, rfl⟩ : ∃ m, k = m + 1 := ⟨k - 1, by omega⟩
        obtain ⟨h1, c, h2, h3⟩ := idxP_at p l m (by omega)
        refine ⟨fun i x hi hx => ?_, c, by simpa using h2, h3⟩
        cases i with
        | zero => simp at hx; subst hx; simpa using hp
        | succ i => exact h1 i x (by omega) (by simpa using hx)
theorem eqB_true {x c : Cn} (h : eqB x c = true) : x = c := by
  obtain ⟨i, p, d, j, s, f, l⟩ := x
  obtain ⟨i2, p2, d2, j2, s2, f2, l2⟩ := c
  unfold eqB at h
  simp only [Bool.and_eq_true, beq_iff_eq] at h
  obtain ⟨⟨⟨⟨⟨⟨rfl, rfl⟩, rfl⟩, rfl⟩, rfl⟩, rfl⟩, rfl⟩ := h
  rfl
theorem bsI_first {R : List Cn} {was : Int} {K j : Nat} {c d : Cn} (hK : bsI R was = K) (hc : R[K]? = some c) (hj : j < K) (hd : R[j]? = some d) : eqB d c = false := by
  cases he : eqB d c with
  | false => rfl
  | true =>
    have e := eqB_true he
    subst e
    unfold bsI at hK
    split at hK
    · obtain ⟨h1, x, h2, h3⟩ := idxP_at isPf R K hK
      have := h1 j d hj hd
      rw [hc] at h2
      injection h2 with h2
      subst h2
      rw [this] at h3; cases h3
    · split at hK
      · obtain ⟨h1, x, h2, h3⟩ := idxP_at (isId was) R K hK
        have := h1 j d hj hd
        rw [hc] at h2
        injection h2 with h2
        subst h2
        rw [this] at h3; cases h3
      · omega
set_option maxRecDepth 20000 in
set_option maxHeartbeats 4000000 in
theorem rmitigate_any (v : Value) (l : List Cn) (was : Int) (w : World) (N : Nat) (h : Rk N w 7 v (l.map cnL)) (hN : N ≤ w.heap.size) (hl : l.length ≤ 1000) (ok : ∀ c ∈ l, okC c) : Calls Try.prog 16 #[v, .int .i64 was] w fun e w' => e = .returned (.agg (rsL (mit l was)).toArray) ∧ Below w.heap.size w w' := by
  have HCl : Hid (∀ u, Below w.heap.size w u → Calls Try.prog 12 #[v] u fun e w' => ∃ x, e = .returned x ∧ Hid (OR w' u.heap.size 27 7 x ((clu l).map cnL)) ∧ Hid (Below u.heap.size u w')) := fun u hb => rcluster_any v l u N (h.below hb hN) (Nat.le_trans hN hb.size) hl ok
  have HPR : Hid (mit l was = mtg (puF (clu l)) (plF (clu l)) was ∧ (clu l).length ≤ 10 ∧ ∀ c ∈ clu l, okC c) := ⟨mit_eq l was, (clu_small l ok).1, (clu_small l ok).2⟩
  obtain ⟨L, hL⟩ : ∃ L, clu l = L := ⟨_, rfl⟩
  obtain ⟨M, hM⟩ : ∃ M, mit l was = M := ⟨_, rfl⟩
  rw [hL] at HCl
  rw [hL, hM] at HPR
  rw [hM]
  clear h hN hl ok hL hM
  go_enter Try.func16, Try.ntmps16
  refine post_hid fun Q hQ => ?_
  go_upto_region 3 with (first
    | (refine step_alL (by rfl) 37 rfl (rsL zRs).toArray (fun u => by kernel_rfl) ?_; intro w1 gr H1)
    | (refine step_alL (by rfl) 27 rfl (cnL zCn).toArray (fun u => by kernel_rfl) ?_; intro w2 gp H2)
    | (refine step_stL (by rfl) _ _ rfl gp (cnL zCn).toArray (by rfl) (by rfl) (cnL zCn).toArray (by kernel_rfl) (by kernel_rfl) (by kernel_rfl) H2.out.bk ?_; intro w3 H3))
  have HA : Hid (Below w.heap.size w w3 ∧ Bk gr w3 (rsL zRs).toArray 37 ∧ Bk gp w3 (cnL zCn).toArray 27 ∧ w.heap.size ≤ gr ∧ w.heap.size ≤ gp ∧ gr ≠ gp) := by
    have h1 := H1.out.at'
    have h2 := H2.out.at'
    have h3 := H1.out.bk.lt
    have h4 := H1.out.be.size
    have hne : gr ≠ gp := by omega
    have hb2 := below_thru H1.out.be H2.out.be
    exact ⟨H3.out.below hb2 hb2.size (by omega), H3.out.other (H2.out.other H1.out.bk) hne, H3.out.bk, by omega, by omega, hne⟩
  clear H1 H2 H3
  go_wp2_with (go_at_call 12; refine (HCl.out _ HA.out.1).mono ?_; rintro e w4 ⟨x1, rfl, h1, h2⟩; have HX : Hid (OR w4 w3.heap.size 27 7 x1 (L.map cnL) ∧ Below w3.heap.size w3 w4) := ⟨h1.out, h2.out⟩; obtain ⟨ao, cap, hx1⟩ := or_len HX.out.1; rw [List.length_map] at hx1; obtain ⟨n, hn⟩ : ∃ n, L.length = n := ⟨_, rfl⟩; have HN : Hid (L.length = n) := hn; rw [hn] at hx1; subst hx1; have hn10 : (n : Int) ≤ 10 := (by have := HPR.out.2.1; omega); clear h1 h2 hn)
  have H4 : Hid (Bk gr w4 (rsL zRs).toArray 37 ∧ Bk gp w4 (cnL zCn).toArray 27 ∧ Below w.heap.size w w4 ∧ gp < w3.heap.size) := ⟨HA.out.2.1.kept (HX.out.2.block _ HA.out.2.1.lt), HA.out.2.2.1.kept (HX.out.2.block _ HA.out.2.2.1.lt), below_thru HA.out.1 HX.out.2, HA.out.2.2.1.lt⟩
  have HRow : Hid (∀ u, w4.grownBy u (some gp) → ∀ (i : Nat) c, L[i]? = some c → ∃ ad, ao = some ad ∧ ∀ j x, (cnL c)[j]? = some x → u.cell? ((ad.add (i * 7)).add j) = some x) := fun u hu i c hc => by
    have ho := HX.out.1.gb hu (by
      cases hv : (Value.slice ao n cap).ownBlock with
      | none => exact .inl rfl
      | some b => exact .inr (fun e => by injection e with e; have := (HX.out.1.ownlt b hv).1; have := H4.out.2.2.2; omega))
    obtain ⟨ao3, cap3, hv3, _, hr3⟩ := cands_read ho.rk
    injection hv3 with v1 v2 v3
    subst v1
    obtain ⟨ad, g1, _, g2⟩ := hr3 u (fun _ _ => rfl) i c hc
    exact ⟨ad, g1, g2⟩
  clear HCl
  go_loopw [5, 8, 10, 22] (fun r b _ i wr => ∃ k : Nat, i = .int .i64 k ∧ (k : Int) ≤ n ∧ b = .bool (npB (L.take k)) ∧ Hid (OR wr w4.heap.size 27 7 r ((plF (L.take k)).map cnL) ∧ Bk gp wr (cnL (fs (puF (L.take k)))).toArray 27 ∧ w4.grownBy wr (some gp))) (fun _ _ _ i _ => n - (intOf i).toNat)
  case atStart => exact ⟨0, rfl, by omega, rfl, OR.nil _ _ _ _, H4.out.2.1, ⟨rfl, rfl, rfl, Nat.le_refl _, fun _ _ _ => rfl⟩⟩
  case round =>
    obtain ⟨k, rfl, hk, rfl, HB⟩ := hrel
    obtain ⟨b, hb⟩ : ∃ b, npB (L.take k) = b := ⟨_, rfl⟩
    have HNb : Hid (npB (L.take k) = b) := hb
    rw [hb]
    clear hb
    obtain ⟨rv, hrv⟩ : ∃ rv, rv = u5 := ⟨_, rfl⟩
    subst hrv
    by_cases hlt : (k : Int) < n
    · obtain ⟨c, hc⟩ : ∃ c, L[k]? = some c := ⟨_, List.getElem?_eq_getElem (by have := HN.out; omega)⟩
      obtain ⟨ad, g1, g3⟩ := HRow.out wr HB.out.2.2 k c hc
      have hix := ix_C n cap k g1 hlt
      have HS : Hid (∀ j u, (cnL c)[j]? = some u → wr.cell? ((ad.add (k * 7)).add j) = some u) := g3
      have HK : Hid ((c.pu = false → puF (L.take (k + 1)) = puF (L.take k) ∧ plF (L.take (k + 1)) = plF (L.take k) ++ [c]) ∧ (c.pu = true → plF (L.take (k + 1)) = plF (L.take k) ∧ npB (L.take (k + 1)) = true ∧ fs (puF (L.take (k + 1))) = if npB (L.take k) = true then fs (puF (L.take k)) else c)) := pu_step hc
      have HLn : Hid (((plF (L.take k)).map cnL).length ≤ 1000) := by
        show _ ≤ _
        rw [List.length_map]
        have h1 : (plF (L.take k)).length ≤ (L.take k).length := List.length_filter_le _ _
        rw [List.length_take] at h1
        omega
      clear g1 g3 hc
      go_upto_block 2 with (first
        | (refine step_ldat 27 _ rfl rfl (ad.add (k * 7)) (by rfl) (cnL c) _ Try.underlying27 rfl (by kernel_rfl) HS.out ?_)
        | (refine step_alL (by rfl) 27 rfl (cnL zCn).toArray (fun u => by kernel_rfl) ?_; intro w6 g H6)
        | (refine step_stL (by rfl) _ _ rfl g (cnL c).toArray (by rfl) (by rfl) (cnL zCn).toArray (by kernel_rfl) (by kernel_rfl) (by kernel_rfl) H6.out.bk ?_; intro w7 H7))
      have H8 : Hid (OR w7 w4.heap.size 27 7 rv ((plF (L.take k)).map cnL) ∧ Bk gp w7 (cnL (fs (puF (L.take k)))).toArray 27 ∧ w4.grownBy w7 (some gp) ∧ Bk g w7 (cnL c).toArray 27 ∧ g ≠ gp ∧ w4.heap.size ≤ w7.heap.size) := by
        have hb := H7.out.below H6.out.be H6.out.be.size (Nat.le_of_eq H6.out.at'.symm)
        have h1 := H6.out.at'
        have h2 := HB.out.2.1.lt
        have h3 := HB.out.2.2.size
        have h4 := hb.size
        exact ⟨HB.out.1.below hb (Nat.le_refl _), HB.out.2.1.kept (hb.block _ HB.out.2.1.lt), gb_thru HB.out.2.2 (hb.mono h3), H7.out.bk, by omega, by omega⟩
      have HSc : Hid (∀ j u, (cnL c)[j]? = some u → w7.cell? ((⟨g, 0, none⟩ : Addr).add j) = some u) := cells_of (l := cnL c) H8.out.2.2.2.1
      have q6 : w7.cell? ⟨g, 6, none⟩ = some (.bool c.pu) := H8.out.2.2.2.1.cell 6
      obtain ⟨X, hX⟩ : ∃ X, c.pu = X := ⟨_, rfl⟩
      have HXp : Hid (c.pu = X) := hX
      rw [hX] at q6
      clear H6 H7 HS HB hix hX
      cases X
      · have HT : Hid (puF (L.take (k + 1)) = puF (L.take k) ∧ plF (L.take (k + 1)) = plF (L.take k) ++ [c]) := HK.out.1 HXp.out
        have HT2 : Hid (npB (L.take (k + 1)) = b) := by show _ = _; rw [← HNb.out]; unfold npB; rw [HT.out.1]
        go_wp2_with (first
          | (refine step_ldat 27 _ rfl rfl ⟨g, 0, none⟩ (by rfl) (cnL c) _ Try.underlying27 rfl (by kernel_rfl) HSc.out ?_)
          | (refine step_bsL (by rfl) 22 27 _ rfl (.agg (cnL c).toArray) (cnL c) (by rfl) (run_bsC c) ?_; intro w8 g8 H9)
          | (at_builtin; refine step_apL tiC rfl _ _ rfl w4.heap.size g8 rv (cnL c) (by rfl) (by rfl) rfl (cnL_one c) w7 _ ?_ ?_ H8.out.1 H9.out H8.out.2.2.2.2.2 ?_; (have := HLn.out; simp only [maxLen]; omega); (have := HLn.out; omega); intro va wa Ha))
        go_roundw
        case rel =>
          refine ⟨k + 1, by go_num, by omega, by rw [HT2.out], ?_, ?_, gb_thru H8.out.2.2.1 Ha.out.2⟩
          · rw [HT.out.2, List.map_append]; exact Ha.out.1
          · rw [HT.out.1]; exact H8.out.2.1.kept (Ha.out.2.block _ (Nat.lt_of_lt_of_le H4.out.2.2.2 HX.out.2.size))
        case measure => simp [intOf]; omega
      · have HT : Hid (plF (L.take (k + 1)) = plF (L.take k) ∧ npB (L.take (k + 1)) = true ∧ fs (puF (L.take (k + 1))) = if b = true then fs (puF (L.take k)) else c) := by
          have := HK.out.2 HXp.out
          rw [HNb.out] at this
          exact this
        cases b
        · go_wp2_with (first
            | (refine step_ldat 27 _ rfl rfl ⟨g, 0, none⟩ (by rfl) (cnL c) _ Try.underlying27 rfl (by kernel_rfl) HSc.out ?_)
            | (refine step_stL (by rfl) _ _ rfl gp (cnL c).toArray (by rfl) (by rfl) (cnL (fs (puF (L.take k)))).toArray (by kernel_rfl) (by rfl) (by kernel_rfl) H8.out.2.1 ?_; intro w9 H9))
          go_roundw
          case rel =>
            refine ⟨k + 1, by go_num, by omega, by rw [HT.out.2.1], ?_, ?_, grownBy_trans H8.out.2.2.1 (H9.out.gr)⟩
            · rw [HT.out.1]
              refine H8.out.1.gb H9.out.gr ?_
              cases hv : rv.ownBlock with
              | none => exact .inl rfl
              | some b => exact .inr (fun e => by injection e with e; have h1 := (H8.out.1.ownlt b hv).1; have h2 := H4.out.2.2.2; have h3 := HX.out.2.size; omega)
            · rw [HT.out.2.2, if_neg (by simp)]; exact H9.out.bk
          case measure => simp [intOf]; omega
        · go_wp2_with fail
          go_roundw
          case rel => exact ⟨k + 1, by go_num, by omega, by rw [HT.out.2.1], by rw [HT.out.1]; exact H8.out.1, by rw [HT.out.2.2, if_pos rfl]; exact H8.out.2.1, H8.out.2.2.1⟩
          case measure => simp [intOf]; omega
    · have hkn : k = n := by omega
      subst hkn
      have hZ : L.take k = L := List.take_of_length_le (by rw [HN.out]; exact Nat.le_refl _)
      rw [hZ] at HB HNb
      obtain ⟨R, hR⟩ : ∃ R, plF L = R := ⟨_, rfl⟩
      obtain ⟨P, hP⟩ : ∃ P, puF L = P := ⟨_, rfl⟩
      have HPb : Hid (b = true ↔ P ≠ []) := by show _ ↔ _; rw [← HNb.out, npB_iff, hP]
      have HRl : Hid (R.length ≤ 10 ∧ (∀ c ∈ R, okC c) ∧ M = mtg P R was) := by
        refine ⟨?_, fun c hc => ?_, by rw [HPR.out.1, hP, hR]⟩
        · have h1 : (plF L).length ≤ L.length := List.length_filter_le _ _
          have := HPR.out.2.1
          rw [hR] at h1; omega
        · rw [← hR] at hc
          exact HPR.out.2.2 c (List.mem_filter.1 hc).1
      rw [hR, hP] at HB
      have H5 : Hid (OR wr w4.heap.size 27 7 rv (R.map cnL) ∧ Bk gp wr (cnL (fs P)).toArray 27 ∧ Bk gr wr (rsL zRs).toArray 37 ∧ Below w.heap.size w wr) := by
        refine ⟨HB.out.1, HB.out.2.1, ?_, ?_⟩
        · exact H4.out.1.kept (HB.out.2.2.block _ H4.out.1.lt (fun e => by injection e with e; exact HA.out.2.2.2.2.2 e))
        · exact H4.out.2.2.1.grown HB.out.2.2 H4.out.2.2.1.size (fun q hq => by injection hq with hq; rw [← hq]; exact HA.out.2.2.2.2.1)
      obtain ⟨ar, cr, hrv⟩ := or_len H5.out.1
      rw [List.length_map] at hrv
      obtain ⟨nr, hnr⟩ : ∃ nr, R.length = nr := ⟨_, rfl⟩
      have HNr : Hid (R.length = nr) := hnr
      rw [hnr] at hrv
      subst hrv
      have hnr10 : (nr : Int) ≤ 10 := by have := HRl.out.1; omega
      obtain ⟨IO, hIO⟩ : ∃ IO, bsO R = IO := ⟨_, rfl⟩
      obtain ⟨CC, hCC⟩ : ∃ CC, bsC R was = CC := ⟨_, rfl⟩
      have HBs : Hid (bsO R = IO ∧ bsC R was = CC) := ⟨hIO, hCC⟩
      have HBst : Hid (Calls Try.prog 10 #[.slice ar nr cr, .int .i64 was] wr fun e w' => e = .returned (.tuple #[.agg (cnL CC).toArray, .bool IO]) ∧ Below wr.heap.size wr w') := by
        have := rbest_any (.slice ar nr cr) R was wr _ H5.out.1.rk (Nat.le_refl _) (by have := HRl.out.1; omega)
        rw [hIO, hCC] at this
        exact this
      have HG : Hid (w.heap.size ≤ gr ∧ w.heap.size ≤ gp ∧ gr ≠ gp) := ⟨HA.out.2.2.2.1, HA.out.2.2.2.2.1, HA.out.2.2.2.2.2⟩
      clear hIO hCC hnr hR hP hZ HB HNb HRow hk hlt HN HX H4 HPR hn10 HA
      go_upto_region 12 with (first
        | (go_at_call 10; refine HBst.out.mono ?_; rintro e w5 ⟨rfl, hb5⟩)
        | (refine step_alL (by rfl) 27 rfl (cnL zCn).toArray (fun u => by kernel_rfl) ?_; intro w6 gn H6)
        | (refine step_stL (by rfl) _ _ rfl gn (cnL CC).toArray (by rfl) (by rfl) (cnL zCn).toArray (by kernel_rfl) (by kernel_rfl) (by kernel_rfl) H6.out.bk ?_; intro w7 H7))
      have H8 : Hid (OR w7 w4.heap.size 27 7 (.slice ar nr cr) (R.map cnL) ∧ Bk gp w7 (cnL (fs P)).toArray 27 ∧ Bk gr w7 (rsL zRs).toArray 37 ∧ Bk gn w7 (cnL CC).toArray 27 ∧ Below w.heap.size w w7) := by
        have hb := below_thru hb5 (H7.out.below H6.out.be H6.out.be.size (Nat.le_of_eq H6.out.at'.symm))
        exact ⟨H5.out.1.below hb (Nat.le_refl _), H5.out.2.1.kept (hb.block _ H5.out.2.1.lt), H5.out.2.2.1.kept (hb.block _ H5.out.2.2.1.lt), H7.out.bk, below_thru H5.out.2.2.2 hb⟩
      clear H6 H7 hb5 H5 HBst
      cases IO
      · have HE : Hid (M = zRs) := by
          have e : R = [] := Classical.byContradiction fun h => by have := bsO_ne h; rw [HBs.out.1] at this; cases this
          show _ = _
          rw [HRl.out.2.2, e]
          unfold mtg
          rw [if_pos rfl]; rfl
        go_wp2_with (refine step_stL (by rfl) _ _ rfl gr (rsL zRs).toArray (by rfl) (by rfl) (rsL zRs).toArray (by kernel_rfl) (by kernel_rfl) (by kernel_rfl) H8.out.2.2.1 ?_; intro wz HZz)
        rw [hQ.out]
        refine bodyPost_ret (v := .agg (rsL zRs).toArray) (results_cell_row Try.results16 _ _ gr _ _ (0, 0) _ (by rfl) HZz.out.bk Try.underlying37 rfl (by kernel_rfl)) rfl ⟨by rw [HE.out], HZz.out.below H8.out.2.2.2.2 H8.out.2.2.2.2.size HG.out.1⟩
      · have hne : R ≠ [] := fun h => by have := HBs.out.1; rw [h] at this; cases this
        obtain ⟨K, hK1, hK2, hK3⟩ := bsC_at was hne
        rw [HBs.out.2] at hK3
        have HMt : Hid (M = if P ≠ [] ∧ -1073741824 ≤ CC.o ∧ CC.o ≤ 1073741824 then alo (fs P) true else if CC.pf = true then alo CC false else ⟨CC.id, cmO (ahd R K), cmJ (ahd R K), true, false⟩) := by show _ = _; rw [HRl.out.2.2]; exact mtg_some hne hK1 hK3
        have HKK : Hid (bsI R was = K ∧ K < R.length ∧ R[K]? = some CC) := ⟨hK1, hK2, hK3⟩
        have q0 : w7.cell? ⟨gn, 0, none⟩ = some (.int .i64 CC.id) := H8.out.2.2.2.1.cell 0
        have q1 : w7.cell? ⟨gn, 1, none⟩ = some (.int .i64 CC.o) := H8.out.2.2.2.1.cell 1
        have q3 : w7.cell? ⟨gn, 3, none⟩ = some (.int .i64 CC.j) := H8.out.2.2.2.1.cell 3
        have q5 : w7.cell? ⟨gn, 5, none⟩ = some (.bool CC.pf) := H8.out.2.2.2.1.cell 5
        clear hK1 hK2 hK3 hne
        by_cases hpl : b = true ∧ CC.o ≤ 1073741824 ∧ -1073741824 ≤ CC.o
        · obtain ⟨rfl, hhi, hlo⟩ := hpl
          have HE : Hid (M = alo (fs P) true) := by
            show _ = _
            rw [HMt.out, if_pos ⟨HPb.out.1 rfl, hlo, hhi⟩]
          obtain ⟨c0, hc0⟩ : ∃ c0, fs P = c0 := ⟨_, rfl⟩
          rw [hc0] at HE H8
          have p0 : w7.cell? ⟨gp, 0, none⟩ = some (.int .i64 c0.id) := H8.out.2.1.cell 0
          have p1 : w7.cell? ⟨gp, 1, none⟩ = some (.int .i64 c0.o) := H8.out.2.1.cell 1
          have p3 : w7.cell? ⟨gp, 3, none⟩ = some (.int .i64 c0.j) := H8.out.2.1.cell 3
          clear hc0 HMt
          go_wp2_with (refine step_stL (by rfl) _ _ rfl gr (rsL (alo c0 true)).toArray (by rfl) (by rfl) (rsL zRs).toArray (by kernel_rfl) (by kernel_rfl) (by kernel_rfl) H8.out.2.2.1 ?_; intro wz HZz)
          rw [hQ.out]
          refine bodyPost_ret (v := .agg (rsL (alo c0 true)).toArray) (results_cell_row Try.results16 _ _ gr _ _ (0, 0) _ (by rfl) HZz.out.bk Try.underlying37 rfl (by kernel_rfl)) rfl ⟨by rw [HE.out], HZz.out.below H8.out.2.2.2.2 H8.out.2.2.2.2.size HG.out.1⟩
        · have HMt2 : Hid (M = if CC.pf = true then alo CC false else ⟨CC.id, cmO (ahd R K), cmJ (ahd R K), true, false⟩) := by
            show _ = _
            rw [HMt.out, if_neg]
            exact fun hh => hpl ⟨HPb.out.2 hh.1, hh.2.2, hh.2.1⟩
          have hcases : b = false ∨ (b = true ∧ ¬ CC.o ≤ 1073741824) ∨ (b = true ∧ CC.o ≤ 1073741824 ∧ ¬ -1073741824 ≤ CC.o) := by
            cases b
            · exact .inl rfl
            · by_cases h1 : CC.o ≤ 1073741824
              · exact .inr (.inr ⟨rfl, h1, fun h2 => hpl ⟨rfl, h1, h2⟩⟩)
              · exact .inr (.inl ⟨rfl, h1⟩)
          obtain ⟨pf, hpf⟩ : ∃ pf, CC.pf = pf := ⟨_, rfl⟩
          rw [hpf] at q5
          have HPf : Hid (CC.pf = pf) := hpf
          clear hpl HMt hpf
          cases pf
          · have HE : Hid (M = ⟨CC.id, cmO (ahd R K), cmJ (ahd R K), true, false⟩) := by show _ = _; rw [HMt2.out, HPf.out, if_neg (by simp)]
            clear HMt2
            go_upto_region 14 with fail
            go_cut [58] from 48 to 57 (fun x wx => x = .bool false ∧ wx = w7)
            case first =>
              rcases hcases with rfl | ⟨rfl, hx1⟩ | ⟨rfl, hx1, hx2⟩
              all_goals go_wp2_with fail
              all_goals
                go_meet
                case rel => exact ⟨by first | rfl | simp, rfl⟩
            case rest =>
              obtain ⟨hx, hwc⟩ := hcut
              rw [hx, hwc]
              clear hx hwc hcases
              have HSn : Hid (∀ u, Below w7.heap.size w7 u → ∀ i x, (cnL CC)[i]? = some x → u.cell? ((⟨gn, 0, none⟩ : Addr).add i) = some x) := fun u hu => cells_of (H8.out.2.2.2.1.kept (hu.block _ H8.out.2.2.2.1.lt))
              have HRow : Hid (∀ u, Below w7.heap.size w7 u → ∀ (i : Nat) c, R[i]? = some c → ∃ ad, ar = some ad ∧ ∀ j x, (cnL c)[j]? = some x → u.cell? ((ad.add (i * 7)).add j) = some x) := fun u hb i c hc => by
                obtain ⟨ao3, cap3, hv3, _, hr3⟩ := cands_read (H8.out.1.below hb (Nat.le_refl _)).rk
                injection hv3 with v1 v2 v3
                subst v1
                obtain ⟨ad, g1, _, g2⟩ := hr3 u (fun _ _ => rfl) i c hc
                exact ⟨ad, g1, g2⟩
              have hbr : Below w7.heap.size w7 w7 := Below.refl _ _
              go_wp2_with (first
                | (refine step_ldat 27 _ rfl rfl ⟨gn, 0, none⟩ (by rfl) (cnL CC) _ Try.underlying27 rfl (by kernel_rfl) (HSn.out _ hbr) ?_)
                | (refine step_bsL (by rfl) 22 27 _ rfl (.agg (cnL CC).toArray) (cnL CC) (by rfl) (run_bsC CC) ?_; intro w8 g8 H9)
                | (at_builtin; refine step_apL tiC rfl _ _ rfl w7.heap.size g8 (.slice none 0 0) (cnL CC) (by rfl) (by rfl) rfl (cnL_one CC) w7 [] ?_ ?_ (OR.nil _ _ _ _) H9.out (Nat.le_refl _) ?_; (simp only [maxLen, List.length_nil]; omega); (simp only [List.length_nil]; omega); intro va wa Ha))
              have HA1 : Hid (OR wa w7.heap.size 27 7 va ((CC :: (R.take 0).eraseIdx K).map cnL) ∧ Below w7.heap.size w7 wa) := by
                refine ⟨?_, Ha.out.2⟩
                have e : (R.take 0).eraseIdx K = [] := by simp
                rw [e]; exact Ha.out.1
              clear Ha H9 q0 q1 q3 q5
              go_loopw [6, 13, 15, 81] (fun r gd _ i wx => ∃ j : Nat, i = .int .i64 j ∧ (j : Int) ≤ nr ∧ gd = .bool (decide (K < j)) ∧ Hid (OR wx w7.heap.size 27 7 r ((CC :: (R.take j).eraseIdx K).map cnL) ∧ Below w7.heap.size w7 wx)) (fun _ _ _ i _ => nr - (intOf i).toNat)
              case atStart => exact ⟨0, rfl, by omega, by rw [decide_eq_false (by omega)], HA1.out⟩
              case round =>
                obtain ⟨j, rfl, hj, rfl, HB⟩ := hrel
                obtain ⟨G, hG⟩ : ∃ G, decide (K < j) = G := ⟨_, rfl⟩
                have HGd : Hid (decide (K < j) = G) := hG
                rw [hG]
                clear hG HA1
                obtain ⟨sv, hsv⟩ : ∃ sv, sv = u6 := ⟨_, rfl⟩
                subst hsv
                by_cases hlt : (j : Int) < nr
                · obtain ⟨c, hc⟩ : ∃ c, R[j]? = some c := ⟨_, List.getElem?_eq_getElem (by have := HNr.out; omega)⟩
                  obtain ⟨ad, g1, g3⟩ := HRow.out wr HB.out.2 j c hc
                  have hix := ix_C nr cr j g1 hlt
                  have HS : Hid (∀ i u, (cnL c)[i]? = some u → wr.cell? ((ad.add (j * 7)).add i) = some u) := g3
                  have HK : Hid (R[j]? = some c) := hc
                  obtain ⟨E, hE⟩ : ∃ E, eqB c CC = E := ⟨_, rfl⟩
                  have HEb : Hid (eqB c CC = E) := hE
                  have hcm : ∀ u, (binOp .eql 27 (.agg (cnL c).toArray) (.agg (cnL CC).toArray)).run Try.prog u = .ok (.bool E) u := fun u => by rw [eq_cn, hE]
                  have HLn : Hid (((CC :: (R.take j).eraseIdx K).map cnL).length ≤ 1000) := by
                    show _ ≤ _
                    rw [List.length_map, List.length_cons]
                    have h1 := List.length_eraseIdx_le (R.take j) K
                    rw [List.length_take] at h1
                    have := HRl.out.1
                    omega
                  clear g1 g3 hc hE
                  go_upto_region 23 with (first
                    | (refine step_ldat 27 _ rfl rfl (ad.add (j * 7)) (by rfl) (cnL c) _ Try.underlying27 rfl (by kernel_rfl) HS.out ?_)
                    | (refine step_alL (by rfl) 27 rfl (cnL zCn).toArray (fun u => by kernel_rfl) ?_; intro w10 g H6)
                    | (refine step_stL (by rfl) _ _ rfl g (cnL c).toArray (by rfl) (by rfl) (cnL zCn).toArray (by kernel_rfl) (by kernel_rfl) (by kernel_rfl) H6.out.bk ?_; intro w11 H7))
                  have H12 : Hid (OR w11 w7.heap.size 27 7 sv ((CC :: (R.take j).eraseIdx K).map cnL) ∧ Below w7.heap.size w7 w11 ∧ Bk g w11 (cnL c).toArray 27) := by
                    have hb := H7.out.below H6.out.be H6.out.be.size (Nat.le_of_eq H6.out.at'.symm)
                    exact ⟨HB.out.1.below hb (Nat.le_refl _), below_thru HB.out.2 hb, H7.out.bk⟩
                  have HSg : Hid (∀ i x, (cnL c)[i]? = some x → w11.cell? ((⟨g, 0, none⟩ : Addr).add i) = some x) := cells_of (l := cnL c) H12.out.2.2
                  have HSm : Hid (∀ i x, (cnL CC)[i]? = some x → w11.cell? ((⟨gn, 0, none⟩ : Addr).add i) = some x) := HSn.out w11 H12.out.2.1
                  clear H6 H7 HS hix HB hbr
                  have hway : (j < K ∧ E = false ∧ G = false) ∨ (j = K ∧ E = true ∧ G = false) ∨ (K < j ∧ G = true ∧ E = true) ∨ (K < j ∧ G = true ∧ E = false) := by
                    rcases Nat.lt_trichotomy j K with h | h | h
                    · refine .inl ⟨h, ?_, ?_⟩
                      · rw [← HEb.out]; exact bsI_first HKK.out.1 HKK.out.2.2 h HK.out
                      · rw [← HGd.out]; exact decide_eq_false (by omega)
                    · refine .inr (.inl ⟨h, ?_, ?_⟩)
                      · have e1 := HK.out
                        rw [h, HKK.out.2.2] at e1
                        injection e1 with e1
                        rw [← HEb.out, ← e1]; exact eqB_self _
                      · rw [← HGd.out]; exact decide_eq_false (by omega)
                    · have hg : G = true := by rw [← HGd.out]; exact decide_eq_true h
                      cases E
                      · exact .inr (.inr (.inr ⟨h, hg, rfl⟩))
                      · exact .inr (.inr (.inl ⟨h, hg, rfl⟩))
                  have HNx : Hid (j ≠ K → (R.take (j + 1)).eraseIdx K = (R.take j).eraseIdx K ++ [c]) := fun h => er_next HK.out h
                  clear HEb HGd
                  rcases hway with ⟨h1, rfl, rfl⟩ | ⟨h1, rfl, rfl⟩ | ⟨h1, rfl, rfl⟩ | ⟨h1, rfl, rfl⟩
                  · have HW : Hid (decide (K < j + 1) = false ∧ j ≠ K) := ⟨decide_eq_false (by omega), by omega⟩
                    clear h1
                    go_wp2_with (first
                      | (refine step_ldat 27 _ rfl rfl ⟨g, 0, none⟩ (by rfl) (cnL c) _ Try.underlying27 rfl (by kernel_rfl) HSg.out ?_)
                      | (refine step_ldat 27 _ rfl rfl ⟨gn, 0, none⟩ (by rfl) (cnL CC) _ Try.underlying27 rfl (by kernel_rfl) HSm.out ?_)
                      | (refine step_bsL (by rfl) 22 27 _ rfl (.agg (cnL c).toArray) (cnL c) (by rfl) (run_bsC c) ?_; intro w12 g12 H13)
                      | (at_builtin; refine step_apL tiC rfl _ _ rfl w7.heap.size g12 sv (cnL c) (by rfl) (by rfl) rfl (cnL_one c) w11 _ ?_ ?_ H12.out.1 H13.out H12.out.2.1.size ?_; (have := HLn.out; simp only [maxLen]; omega); (have := HLn.out; omega); intro vb wb Hb))
                    go_roundw
                    case rel => exact ⟨j + 1, by go_num, by omega, by rw [HW.out.1], by rw [HNx.out HW.out.2, ← List.cons_append, List.map_append]; exact Hb.out.1, H12.out.2.1.trans Hb.out.2⟩
                    case measure => simp [intOf]; omega
                  · have HW : Hid (decide (K < j + 1) = true ∧ (R.take (j + 1)).eraseIdx K = (R.take j).eraseIdx K) := ⟨decide_eq_true (by omega), by rw [h1]; exact er_same R K⟩
                    clear h1
                    go_wp2_with (first
                      | (refine step_ldat 27 _ rfl rfl ⟨g, 0, none⟩ (by rfl) (cnL c) _ Try.underlying27 rfl (by kernel_rfl) HSg.out ?_)
                      | (refine step_ldat 27 _ rfl rfl ⟨gn, 0, none⟩ (by rfl) (cnL CC) _ Try.underlying27 rfl (by kernel_rfl) HSm.out ?_))
                    go_roundw
                    case rel => exact ⟨j + 1, by go_num, by omega, by rw [HW.out.1], by rw [HW.out.2]; exact H12.out.1, H12.out.2.1⟩
                    case measure => simp [intOf]; omega
                  all_goals
                    have HW : Hid (decide (K < j + 1) = true ∧ j ≠ K) := ⟨decide_eq_true (by omega), by omega⟩
                    clear h1
                    go_wp2_with (first
                      | (refine step_ldat 27 _ rfl rfl ⟨g, 0, none⟩ (by rfl) (cnL c) _ Try.underlying27 rfl (by kernel_rfl) HSg.out ?_)
                      | (refine step_ldat 27 _ rfl rfl ⟨gn, 0, none⟩ (by rfl) (cnL CC) _ Try.underlying27 rfl (by kernel_rfl) HSm.out ?_)
                      | (refine step_bsL (by rfl) 22 27 _ rfl (.agg (cnL c).toArray) (cnL c) (by rfl) (run_bsC c) ?_; intro w12 g12 H13)
                      | (at_builtin; refine step_apL tiC rfl _ _ rfl w7.heap.size g12 sv (cnL c) (by rfl) (by rfl) rfl (cnL_one c) w11 _ ?_ ?_ H12.out.1 H13.out H12.out.2.1.size ?_; (have := HLn.out; simp only [maxLen]; omega); (have := HLn.out; omega); intro vb wb Hb))
                    go_roundw
                    case rel => exact ⟨j + 1, by go_num, by omega, by rw [HW.out.1], by rw [HNx.out HW.out.2, ← List.cons_append, List.map_append]; exact Hb.out.1, H12.out.2.1.trans Hb.out.2⟩
                    case measure => simp [intOf]; omega
                · have hjn : j = nr := by omega
                  subst hjn
                  have hrow : CC :: (R.take j).eraseIdx K = ahd R K := by
                    unfold ahd
                    rw [List.take_of_length_le (by rw [HNr.out]; exact Nat.le_refl _), getD_at HKK.out.2.2]
                  rw [hrow] at HB
                  obtain ⟨O, hO⟩ : ∃ O, cmO (ahd R K) = O := ⟨_, rfl⟩
                  obtain ⟨J, hJ⟩ : ∃ J, cmJ (ahd R K) = J := ⟨_, rfl⟩
                  have HCo : Hid (Calls Try.prog 8 #[sv] wr fun e w2 => e = .returned (.tuple #[.int .i64 O, .int .i64 J]) ∧ Below wr.heap.size wr w2) := by
                    rw [← hO, ← hJ]
                    refine rcombine_any sv (ahd R K) wr wr.heap.size HB.out.1.rk (Nat.le_refl _) ?_ ?_
                    · unfold ahd
                      rw [List.length_cons]
                      have := List.length_eraseIdx_le R K
                      have := HRl.out.1
                      omega
                    · intro x hx
                      unfold ahd at hx
                      rcases List.mem_cons.1 hx with rfl | hx
                      · rw [getD_at HKK.out.2.2]; exact HRl.out.2.1 CC (List.mem_of_getElem? HKK.out.2.2)
                      · exact HRl.out.2.1 x (List.mem_of_mem_eraseIdx hx)
                  rw [hO, hJ] at HE
                  clear hO hJ hrow hbr hj
                  go_wp2_with (first
                    | (go_at_call 8; refine HCo.out.mono ?_; rintro e w20 ⟨rfl, h20⟩; have HZ : Hid (Below w7.heap.size w7 w20) := below_thru HB.out.2 h20; have q0 : w20.cell? ⟨gn, 0, none⟩ = some (.int .i64 CC.id) := (H8.out.2.2.2.1.kept (HZ.out.block _ H8.out.2.2.2.1.lt)).cell 0; have HGr : Hid (Bk gr w20 (rsL zRs).toArray 37 ∧ Below w.heap.size w w20) := ⟨H8.out.2.2.1.kept (HZ.out.block _ H8.out.2.2.1.lt), below_thru H8.out.2.2.2.2 HZ.out⟩; clear h20)
                    | (refine step_stL (by rfl) _ _ rfl gr (rsL ⟨CC.id, O, J, true, false⟩).toArray (by rfl) (by rfl) (rsL zRs).toArray (by kernel_rfl) (by kernel_rfl) (by kernel_rfl) HGr.out.1 ?_; intro wz HZz))
                  rw [hQ.out]
                  refine bodyPost_ret (v := .agg (rsL ⟨CC.id, O, J, true, false⟩).toArray) (results_cell_row Try.results16 _ _ gr _ _ (0, 0) _ (by rfl) HZz.out.bk Try.underlying37 rfl (by kernel_rfl)) rfl ⟨by rw [HE.out], HZz.out.below HGr.out.2 HGr.out.2.size HG.out.1⟩
          · have HE : Hid (M = alo CC false) := by show _ = _; rw [HMt2.out, HPf.out, if_pos rfl]
            clear HMt2
            rcases hcases with rfl | ⟨rfl, hx1⟩ | ⟨rfl, hx1, hx2⟩
            all_goals
              go_wp2_with (refine step_stL (by rfl) _ _ rfl gr (rsL (alo CC false)).toArray (by rfl) (by rfl) (rsL zRs).toArray (by kernel_rfl) (by kernel_rfl) (by kernel_rfl) H8.out.2.2.1 ?_; intro wz HZz)
              rw [hQ.out]
              refine bodyPost_ret (v := .agg (rsL (alo CC false)).toArray) (results_cell_row Try.results16 _ _ gr _ _ (0, 0) _ (by rfl) HZz.out.bk Try.underlying37 rfl (by kernel_rfl)) rfl ⟨by rw [HE.out], HZz.out.below H8.out.2.2.2.2 H8.out.2.2.2.2.size HG.out.1⟩
end Go.Proofs.Ytdlipponajilbaa
