/- assoc: the reference's New: the row appended. -/
import Derived.Test.YtnjdmkgkpdebdaaOQ
namespace Go.Proofs.Ytnjdmkgkpdebdaa
open Go Go.RowKit Go.Sort
set_option linter.unusedVariables false
def exv (d : Nat) (V : Value) (k : Int) (a : As) : Nat → Option Value
  | 0 => some (.pointer (some ⟨d, 0, none⟩))
  | 1 => some (.pointer (some ⟨d, 0, none⟩))
  | 2 => some (.pointer (some ⟨d, 0, none⟩))
  | 3 => some (.pointer (some ⟨d, 0, none⟩))
  | 4 => some V
  | 5 => some (.int .i64 k)
  | 6 => some (.int .i64 (k + 1))
  | 7 => some (.agg (asL a).toArray)
  | 8 => some (.agg (enL ⟨0, k + 1, a, 0, 0, 0⟩).toArray)
  | 9 => some (.agg (mbL ⟨0, k + 1, a, 0, 0, 0⟩).toArray)
  | 12 => some (.pointer (some ⟨d, 0, none⟩))
  | 13 => some (.pointer (some ⟨d, 0, none⟩))
  | _ => none
structure ApI (a0 : Act) (w1 : World) (d ga B : Nat) (V : Value) (rows : List (List Value)) (k : Int) (c : As) (listed : Array Bool) (a : Act) (w : World) : Prop where
  size : a.tmps.size = 54
  dfs : a.defers = a0.defers
  kept : ∀ j, j < 38 ∨ 51 < j → a.tmps.getD j undef = a0.tmps.getD j undef
  val : ∀ i v, exv d V k c i = some v → listed.getD i false = true → a.tmps.getD (38 + i) undef = v
  s0 : listed.getD 10 false = false → w = w1 ∧ listed.getD 11 false = false ∧ listed.getD 14 false = false
  s1 : listed.getD 10 false = true → listed.getD 11 false = false → listed.getD 14 false = false ∧ ∃ g, Nw w1 w g (mbL ⟨0, k + 1, c, 0, 0, 0⟩).toArray 83 ∧ a.tmps.getD 48 undef = .slice (some ⟨g, 0, none⟩) 1 1
  s2 : listed.getD 11 false = true → listed.getD 14 false = false → ∃ o n p, a.tmps.getD 49 undef = .slice o n p ∧ OR w B 83 16 (.slice o n p) (rows ++ [mbL ⟨0, k + 1, c, 0, 0, 0⟩]) ∧ Bk d w #[V] 80 ∧ Below B w1 w ∧ ∀ b, (Value.slice o n p).ownBlock = some b → b ≠ d
  s3 : listed.getD 14 false = true → ∃ v', Bk d w #[v'] 80 ∧ OR w B 83 16 v' (rows ++ [mbL ⟨0, k + 1, c, 0, 0, 0⟩]) ∧ Below B w1 w ∧ ∀ b, v'.ownBlock = some b → b ≠ d
/-- what is so ahead of it -/
structure Ap0 (a0 : Act) (w1 : World) (d ga B : Nat) (V : Value) (rows : List (List Value)) (k : Int) (c : As) : Prop where
  t4 : a0.tmps.getD 4 undef = .pointer (some ⟨d, 0, none⟩)
  t5 : a0.tmps.getD 5 undef = .int .i64 k
  t6 : a0.tmps.getD 6 undef = .pointer (some ⟨ga, 0, none⟩)
  bd : Bk d w1 #[V] 80
  bg : Bk ga w1 (asL c).toArray 41
  ow : OR w1 B 83 16 V rows
  ne : ∀ b, V.ownBlock = some b → b ≠ d
  hB : B ≤ d
  k0 : 0 ≤ k
  k1 : k < 16
  ln : rows.length ≤ 16
/-- a reader is done -/
theorem ApI.read {a0 a : Act} {w1 w : World} {d ga B : Nat} {V : Value} {rows : List (List Value)} {k : Int} {c : As} {listed : Array Bool} (h : ApI a0 w1 d ga B V rows k c listed a w) (i : Nat) (hi : i < listed.size) (v : Value) (hv : exv d V k c i = some v) (h14 : i < 14) (hl : listed.size = 15) : ApI a0 w1 d ga B V rows k c (listed.setIfInBounds i true) (a.put (some (38 + i)) v) w := by
  have hls := fun j => ls_set hi j
  have h10 : i ≠ 10 := by rintro rfl; cases hv
  have h11 : i ≠ 11 := by rintro rfl; cases hv
  have hsz := h.size
  have pg := fun j => put_getD (a := a) (d := 38 + i) v (by omega) j
  refine ⟨by rw [put_size]; exact hsz, h.dfs, fun j hj => ?_, fun j u hu hj => ?_, fun hx => ?_, fun hx hy => ?_, fun hx hy => ?_, fun hx => ?_⟩
  · rw [pg, if_neg (by omega)]; exact h.kept j hj
  · rw [pg]
    by_cases e : j = i
    · subst e
      rw [if_pos rfl]
      rw [hv] at hu
      exact Option.some.inj hu
    · rw [if_neg (by omega)]
      rw [hls, if_neg e] at hj
      exact h.val j u hu hj
  · rw [hls, if_neg (by omega)] at hx
    obtain ⟨a1, a2, a3⟩ := h.s0 hx
    exact ⟨a1, by rw [hls, if_neg (by omega)]; exact a2, by rw [hls, if_neg (by omega)]; exact a3⟩
  · rw [hls, if_neg (by omega)] at hx hy
    obtain ⟨a1, g, a2, a3⟩ := h.s1 hx hy
    exact ⟨by rw [hls, if_neg (by omega)]; exact a1, g, a2, by rw [pg, if_neg (by omega)]; exact a3⟩
  · rw [hls, if_neg (by omega)] at hx hy
    obtain ⟨o, n, p, a1, a2⟩ := h.s2 hx hy
    exact ⟨o, n, p, by rw [pg, if_neg (by omega)]; exact a1, a2⟩
  · rw [hls, if_neg (by omega)] at hx
    exact h.s3 hx
set_option maxRecDepth 20000 in
set_option maxHeartbeats 1000000 in
theorem ap_step {Q : Exit → Act → World → Prop} {a0 : Act} {w1 : World} {d ga B : Nat} {V : Value} {rows : List (List Value)} {k : Int} {c : As} (h0 : Ap0 a0 w1 d ga B V rows k c) (listed : Array Bool) (a : Act) (w : World) (i : Nat) (o : Oper) (hs : listed.size = (apOps Try.f9).size) (hI : ApI a0 w1 d ga B V rows k c listed a w) (hcl : Cls (apOps Try.f9).toList listed) (hn : listed.getD i true = false) (ho : (apOps Try.f9)[i]? = some o) (hall : ∀ e ∈ o.after, Region.binds .any e = true → listed.getD e.on false = true) :
    wpOp Try.prog (apOps Try.f9) Q i (fun a' w' => ApI a0 w1 d ga B V rows k c (listed.setIfInBounds i true) a' w') a w := by
  rw [ap_size] at hs
  have hi : i < 15 := by
    rcases Nat.lt_or_ge i 15 with h | h
    · exact h
    · rw [Array.getD, dif_neg (by omega)] at hn; cases hn
  have hil : i < listed.size := by omega
  have hnf : listed.getD i false = false := by rw [getD_tf hil false true]; exact hn
  have eo : o = apO Try.f9 i := by rw [ap_at i hi] at ho; exact (Option.some.inj ho).symm
  subst eo
  have hgd : (apO Try.f9 i).guard = none := by have := List.all_eq_true.1 ap_gd i (List.mem_range.2 hi); simpa using this
  refine wpOp_of ho hgd ?_
  obtain ⟨o0, o1, o2, o3, o4, o5, o6, o7, o8, o9, o10, o11, o12, o13, o14⟩ := ap_ops
  have dst : ∀ j, j < 15 → (apO Try.f9 j).dst = [some 38, some 39, some 40, some 41, some 42, some 43, some 44, some 45, some 46, some 47, some 48, some 49, some 50, some 51, none].getD j none := fun j hj => by
    rw [← ap_dst, List.getD_eq_getElem?_getD, List.getElem?_map, List.getElem?_range hj]
    rfl
  have k4 : a.eval (.tmp 4) = .pointer (some ⟨d, 0, none⟩) := (hI.kept 4 (by omega)).trans h0.t4
  have k5 : a.eval (.tmp 5) = .int .i64 k := (hI.kept 5 (by omega)).trans h0.t5
  have k6 : a.eval (.tmp 6) = .pointer (some ⟨ga, 0, none⟩) := (hI.kept 6 (by omega)).trans h0.t6
  have rd : ∀ (v : Value), exv d V k c i = some v → (execOp a.eval (apO Try.f9 i)).run Try.prog w = .ok (.value v) w → i < 14 → (apO Try.f9 i).dst = some (38 + i) → (apO Try.f9 i).wp Try.prog a w (fun a' w' => ApI a0 w1 d ga B V rows k c (listed.setIfInBounds i true) a' w') Q := fun v hv hr h14 hd => by
    unfold Oper.wp
    rw [hr]
    show ApI _ _ _ _ _ _ _ _ _ _ (a.put (apO Try.f9 i).dst v) w
    rw [hd]
    exact hI.read i hil v hv h14 hs
  have lv : ∀ j v, apW Try.f9 i j = true → exv d V k c j = some v → a.eval (.tmp (38 + j)) = v := fun j v hw hv => hI.val j v hv (apW_spec hw hall)
  have clo : ∀ j t, j < 15 → listed.getD j false = true → needs (apOps Try.f9).toList (apO Try.f9 j) 3 t = true → listed.getD t false = true := fun j t hj hl ht => needs_listed hcl (fun e he hb => hcl j (apO Try.f9 j) (by rw [Array.getElem?_toList]; exact ap_at j hj) hl e he hb) 3 t ht
  have uT := Try.underlying80
  have hls := fun j => ls_set hil j
  rcases (show i = 0 ∨ i = 1 ∨ i = 2 ∨ i = 3 ∨ i = 4 ∨ i = 5 ∨ i = 6 ∨ i = 7 ∨ i = 8 ∨ i = 9 ∨ i = 10 ∨ i = 11 ∨ i = 12 ∨ i = 13 ∨ i = 14 by omega) with rfl | rfl | rfl | rfl | rfl | rfl | rfl | rfl | rfl | rfl | rfl | rfl | rfl | rfl | rfl
  · refine rd _ rfl ?_ (by omega) (dst 0 (by omega))
    unfold execOp
    simp only [o0, k4, Sem.run_pure]
  · refine rd _ rfl ?_ (by omega) (dst 1 (by omega))
    unfold execOp
    simp only [o1, k4, Sem.run_pure]
  · have e := lv 1 _ (by kernel_rfl) rfl
    refine rd _ rfl ?_ (by omega) (dst 2 (by omega))
    unfold execOp
    simp only [o2, e]
    go_simp
  · have e := lv 2 _ (by kernel_rfl) rfl
    refine rd _ rfl ?_ (by omega) (dst 3 (by omega))
    unfold execOp
    simp only [o3, e]
    go_simp
  · have e := lv 3 _ (by kernel_rfl) rfl
    have n11 : listed.getD 11 false = false := by
      cases h : listed.getD 11 false with
      | false => rfl
      | true => have := clo 11 4 (by omega) h (by kernel_rfl); rw [hnf] at this; cases this
    have hb : Bk d w #[V] 80 := by
      cases h : listed.getD 10 false with
      | false => rw [(hI.s0 h).1]; exact h0.bd
      | true =>
        obtain ⟨_, g, hg, _⟩ := hI.s1 h n11
        exact hg.other h0.bd
    have c0 : w.cell? ⟨d, 0, none⟩ = some V := hb.cell 0
    obtain ⟨ao, cap, hV⟩ := or_len h0.ow
    refine rd _ rfl ?_ (by omega) (dst 4 (by omega))
    rw [hV] at c0 ⊢
    unfold execOp
    simp only [o4, e]
    have u2 := Try.underlying78
    go_simp
  · refine rd _ rfl ?_ (by omega) (dst 5 (by omega))
    unfold execOp
    simp only [o5, k5, Sem.run_pure]
  · have e := lv 5 _ (by kernel_rfl) rfl
    have hk0 := h0.k0
    have hk1 := h0.k1
    have hw : wrap64 (k + 1) = k + 1 := by unfold wrap64; omega
    refine rd _ rfl ?_ (by omega) (dst 6 (by omega))
    unfold execOp
    simp only [o6, e]
    go_simp
    rw [IntWalk.i64_left]
    exact hw
  · have n10 : listed.getD 10 false = false := by
      cases h : listed.getD 10 false with
      | false => rfl
      | true => have := clo 10 7 (by omega) h (by kernel_rfl); rw [hnf] at this; cases this
    have hw : w = w1 := (hI.s0 n10).1
    refine rd _ rfl ?_ (by omega) (dst 7 (by omega))
    rw [hw]
    unfold execOp
    simp only [o7, k6, Instr.loadAt, Instr.sureAddr, Sem.run_bind, Sem.run_pure, Result.andThen_ok, run_loadVar_at w1 ⟨ga, 0, none⟩ 41 (asL c) _ (cells_of (l := asL c) h0.bg) Try.underlying41 rfl (by kernel_rfl)]
  · have e1 := lv 6 _ (by kernel_rfl) rfl
    have e2 := lv 7 _ (by kernel_rfl) rfl
    refine rd _ rfl ?_ (by omega) (dst 8 (by omega))
    unfold execOp
    have e : (#[((0 : Nat), Operand.tmp 44), (1, Operand.tmp 45)].map fun (p : Nat × Operand) => (p.1, a.eval p.2)) = #[(0, .int .i64 (k + 1)), (1, .agg (asL c).toArray)] := by simp [e1, e2]
    simp only [o8, e, Sem.run_bind, Sem.run_pure, run_buildE2, Result.andThen_ok]
  · have e1 := lv 8 _ (by kernel_rfl) rfl
    refine rd _ rfl ?_ (by omega) (dst 9 (by omega))
    unfold execOp
    have e : (#[((0 : Nat), Operand.tmp 46)].map fun (p : Nat × Operand) => (p.1, a.eval p.2)) = #[(0, .agg (enL ⟨0, k + 1, c, 0, 0, 0⟩).toArray)] := by simp [e1]
    simp only [o9, e, Sem.run_bind, Sem.run_pure, run_buildRw ⟨0, k + 1, c, 0, 0, 0⟩ rfl, Result.andThen_ok]
  · have e1 := lv 9 _ (by kernel_rfl) rfl
    obtain ⟨hw, n11, n14⟩ := hI.s0 hnf
    have hd : (apO Try.f9 10).dst = some 48 := dst 10 (by omega)
    subst hw
    have pg := fun j => put_getD (a := a) (d := 48) (.slice (some ⟨w.heap.size, 0, none⟩) 1 1) (by have := hI.size; omega) j
    unfold Oper.wp execOp
    simp only [o10, List.map_toArray, List.map_cons, List.map_nil, e1, Sem.run_bind, Sem.run_pure, run_bsRw, Result.andThen_ok, Oper.upon, hd]
    refine ⟨by rw [put_size]; exact hI.size, hI.dfs, fun j hj => ?_, fun j u hu hj => ?_, fun hx => ?_, fun _ _ => ⟨?_, w.heap.size, Nw.mk' w _ _, ?_⟩, fun hx hy => ?_, fun hx => ?_⟩
    · rw [pg, if_neg (by omega)]; exact hI.kept j hj
    · have hne : j ≠ 10 := by rintro rfl; cases hu
      rw [pg, if_neg (by omega)]
      rw [hls, if_neg hne] at hj
      exact hI.val j u hu hj
    · rw [hls, if_pos rfl] at hx; cases hx
    · rw [hls, if_neg (by omega)]; exact n14
    · rw [pg, if_pos rfl]
    · rw [hls, if_neg (by omega), n11] at hx; cases hx
    · rw [hls, if_neg (by omega), n14] at hx; cases hx
  · have l10 := apW_spec (i := 11) (k := 10) (by kernel_rfl) hall
    have e4 := lv 4 _ (by kernel_rfl) rfl
    obtain ⟨n14, g, hN, h48⟩ := hI.s1 l10 hnf
    have e48 : a.eval (.tmp 48) = .slice (some ⟨g, 0, none⟩) 1 1 := h48
    have hd : (apO Try.f9 11).dst = some 49 := dst 11 (by omega)
    have hs1 := hN.be.size
    have bl := h0.bd.lt
    have hBw : B ≤ w.heap.size := by have := h0.hB; omega
    refine wp_appk tiRw _ _ o11 B w.heap.size V _ rows [mbL ⟨0, k + 1, c, 0, 0, 0⟩] e4 e48 (h0.ow.below hN.be (Nat.le_refl _)) (hN.rk rfl) (fun n c hh => by injection hh with hh; cases hh) (fun y hy => by simp at hy; rw [hy]; rfl) (fun y hy u hu => by simp at hy; subst hy; exact mbL_one _ u hu) (by have := h0.ln; simp only [List.length_singleton, maxLen]; omega) (by have := h0.ln; simp only [List.length_singleton]; omega) hBw fun v' w' a1 a2 a3 => ?_
    rw [hd]
    obtain ⟨ao, cap, hv'⟩ := or_len a1
    obtain ⟨nn, hnn⟩ : ∃ nn, (rows ++ [mbL ⟨0, k + 1, c, 0, 0, 0⟩]).length = nn := ⟨_, rfl⟩
    rw [hnn] at hv'
    have pg := fun j => put_getD (a := a) (d := 49) v' (by have := hI.size; omega) j
    have b1 : Bk d w #[V] 80 := hN.other h0.bd
    refine ⟨by rw [put_size]; exact hI.size, hI.dfs, fun j hj => ?_, fun j u hu hj => ?_, fun hx => ?_, fun _ hy => ?_, fun hx hy => ⟨ao, nn, cap, ?_, ?_, ?_, ?_, ?_⟩, fun hx => ?_⟩
    · rw [pg, if_neg (by omega)]; exact hI.kept j hj
    · have hne : j ≠ 11 := by rintro rfl; cases hu
      rw [pg, if_neg (by omega)]
      rw [hls, if_neg hne] at hj
      exact hI.val j u hu hj
    · rw [hls, if_neg (by omega), l10] at hx; cases hx
    · rw [hls, if_pos rfl] at hy; cases hy
    · rw [pg, if_pos rfl]; exact hv'
    · rw [← hv']; exact a1
    · exact b1.kept (a2.block d b1.lt (fun e => h0.ne d e.symm rfl))
    · exact (hN.be.mono (by have := h0.hB; omega)).trans (below_own a2 hBw h0.ow.own)
    · intro b hb
      rw [← hv'] at hb
      rcases a3 with a3 | a3
      · rw [a3] at hb; exact h0.ne b hb
      · rw [a3] at hb
        injection hb with hb
        omega
    · rw [hls, if_neg (by omega), n14] at hx; cases hx
  · have e := lv 0 _ (by kernel_rfl) rfl
    refine rd _ rfl ?_ (by omega) (dst 12 (by omega))
    unfold execOp
    simp only [o12, e]
    go_simp
  · have e := lv 12 _ (by kernel_rfl) rfl
    refine rd _ rfl ?_ (by omega) (dst 13 (by omega))
    unfold execOp
    simp only [o13, e]
    go_simp
  · have l11 := apW_spec (i := 14) (k := 11) (by kernel_rfl) hall
    have e13 := lv 13 _ (by kernel_rfl) rfl
    obtain ⟨ao, n, cap, h49, a1, a2, a3, a4⟩ := hI.s2 l11 hnf
    have e49 : a.eval (.tmp 49) = .slice ao n cap := h49
    have hd : (apO Try.f9 14).dst = none := dst 14 (by omega)
    have l10 : listed.getD 10 false = true := clo 11 10 (by omega) l11 (by kernel_rfl)
    have hne : (Value.slice ao n cap).ownBlock ≠ some d := fun he => a4 d he rfl
    unfold Oper.wp execOp
    simp only [o14, e13, e49, Instr.storeAt, Instr.sureAddr, Sem.run_bind, Sem.run_pure, Result.andThen_ok, run_stin1 (cs := [V]) a2 78 0 (.slice ao n cap) rfl (by kernel_rfl) (by simp) rfl, Oper.upon, hd, put_none]
    have hr : Bk d (w.setRow d #[.slice ao n cap]) #[.slice ao n cap] 80 := Bk.row a2 _
    have hg : w.grownBy (w.setRow d #[.slice ao n cap]) (some d) := grownBy_row _ _ _
    refine ⟨hI.size, hI.dfs, hI.kept, fun j u hu hj => ?_, fun hx => ?_, fun _ hy => ?_, fun _ hy => ?_, fun _ => ⟨_, hr, a1.mod hg hne, ?_, a4⟩⟩
    · have hne : j ≠ 14 := by rintro rfl; cases hu
      rw [hls, if_neg hne] at hj
      exact hI.val j u hu hj
    · rw [hls, if_neg (by omega), l10] at hx; cases hx
    · rw [hls, if_neg (by omega), l11] at hy; cases hy
    · rw [hls, if_pos rfl] at hy; cases hy
    · have hb := h0.hB
      have hs2 := a3.size
      exact a3.trans ⟨hg.os, hg.tape, hg.output, hg.size, fun j hj => hg.block j (by have := h0.bd.lt; omega) (fun e => by injection e with e; omega)⟩
end Go.Proofs.Ytnjdmkgkpdebdaa
