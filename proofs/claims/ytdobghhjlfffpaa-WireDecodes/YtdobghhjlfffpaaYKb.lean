/- The reference's Decode: a field is appended: each operation carries on what is known. -/
import Derived.Test.YtdobghhjlfffpaaYKa
namespace Go.Proofs.Ytdobghhjlfffpaa
open Go Go.RowKit Go.Sort
set_option linter.unusedVariables false
def xv (q : Nat) (V S sB sC : Value) (NI TY : Int) : Nat → Option Value
  | 0 => some (.pointer (some ⟨q, 13, none⟩))
  | 1 => some V
  | 2 => some S
  | 3 => some sB
  | 4 => some (.int .u64 TY)
  | 5 => some (.int .i64 TY)
  | 6 => some S
  | 7 => some (.int .i64 NI)
  | 8 => some sC
  | 13 => some (.pointer (some ⟨q, 13, none⟩))
  | _ => none
/-- what is so ahead of it -/
structure X0 (a0 : Act) (w w1 : World) (S sB sC : Value) (NI TY : Int) (ea : Option Addr) (en ec : Nat) (xs : List Xt) (dat : List Int) (cs : Array Value) : Prop where
  sz : a0.tmps.size = 160
  t0 : a0.tmps.getD 0 undef = S
  t5 : a0.tmps.getD 5 undef = .pointer (some ⟨w.heap.size + 2, 0, none⟩)
  t6 : a0.tmps.getD 6 undef = .int .i64 NI
  pc : PC w w1 cs
  c13 : cs[13]? = some (.slice ea en ec)
  ox : OX w1 (w.heap.size + 3) (.slice ea en ec) xs
  en' : en = xs.length
  ln : xs.length ≤ 3
  rB : ∀ u, (Instr.slice 27 S none (some (.int .i64 2)) none).run Try.prog u = .ok sB u
  rC : ∀ u, (Instr.slice 27 S (some (.int .i64 4)) (some (.int .i64 NI)) none).run Try.prog u = .ok sC u
  gB : ∀ u, Below w.heap.size w u → Calls Try.prog 43 #[sB] u fun e w' => e = .returned (.int .u64 TY) ∧ w' = u
  cC : ∀ u, Below w.heap.size w u → Calls Try.prog 44 #[sC] u fun e w' => ∃ v', e = .returned v' ∧ Below u.heap.size u w' ∧ Own w' u.heap.size v' dat
  ty0 : 0 ≤ TY
  ty1 : TY < 65536
structure XI (a0 : Act) (w w1 : World) (S sB sC : Value) (NI TY : Int) (ea : Option Addr) (en ec : Nat) (xs : List Xt) (dat : List Int) (cs : Array Value) (listed : Array Bool) (a : Act) (u : World) : Prop where
  size : a.tmps.size = 160
  dfs : a.defers = a0.defers
  kept : ∀ j, j < 120 ∨ 133 < j → a.tmps.getD j undef = a0.tmps.getD j undef
  val : ∀ i v, xv (w.heap.size + 2) (.slice ea en ec) S sB sC NI TY i = some v → listed.getD i false = true → a.tmps.getD (120 + i) undef = v
  s0 : listed.getD 9 false = false → u = w1 ∧ listed.getD 10 false = false ∧ listed.getD 11 false = false ∧ listed.getD 12 false = false ∧ listed.getD 14 false = false
  s1 : listed.getD 9 false = true → listed.getD 11 false = false → listed.getD 12 false = false ∧ listed.getD 14 false = false ∧ ∃ dv, a.tmps.getD 129 undef = dv ∧ (listed.getD 10 false = true → a.tmps.getD 130 undef = .agg #[.int .i64 TY, dv]) ∧ Below w1.heap.size w1 u ∧ Own u (w.heap.size + 3) dv dat
  s2 : listed.getD 11 false = true → listed.getD 12 false = false → listed.getD 14 false = false ∧ ∃ dv u0, a.tmps.getD 131 undef = .slice (some ⟨u0.heap.size, 0, none⟩) 1 1 ∧ u = u0.alloc (.cells #[.int .i64 TY, dv] 49) ∧ Below w1.heap.size w1 u0 ∧ Own u0 (w.heap.size + 3) dv dat
  s3 : listed.getD 12 false = true → listed.getD 14 false = false → ∃ dv ea8 en8 ec8, a.tmps.getD 132 undef = .slice ea8 en8 ec8 ∧ PC w u cs ∧ OX u (w.heap.size + 3) (.slice ea8 en8 ec8) (xs ++ [⟨TY, dv, dat⟩])
  s4 : listed.getD 14 false = true → ∃ dv ea8 en8 ec8, PC w u (cs.setIfInBounds 13 (.slice ea8 en8 ec8)) ∧ OX u (w.heap.size + 3) (.slice ea8 en8 ec8) (xs ++ [⟨TY, dv, dat⟩])
theorem XI.read {a0 : Act} {w w1 : World} {S sB sC : Value} {NI TY : Int} {ea : Option Addr} {en ec : Nat} {xs : List Xt} {dat : List Int} {cs : Array Value} {listed : Array Bool} {a : Act} {u : World} (h : XI a0 w w1 S sB sC NI TY ea en ec xs dat cs listed a u) (i : Nat) (hi : i < listed.size) (v : Value) (hv : xv (w.heap.size + 2) (.slice ea en ec) S sB sC NI TY i = some v) (h14 : i < 14) : XI a0 w w1 S sB sC NI TY ea en ec xs dat cs (listed.setIfInBounds i true) (a.put (some (120 + i)) v) u := by
  have hls := fun j => ls_set hi j
  have h9 : i ≠ 9 := by rintro rfl; cases hv
  have h10 : i ≠ 10 := by rintro rfl; cases hv
  have h11 : i ≠ 11 := by rintro rfl; cases hv
  have h12 : i ≠ 12 := by rintro rfl; cases hv
  have hsz := h.size
  have pg := fun j => put_getD (a := a) (d := 120 + i) v (by omega) j
  refine ⟨by rw [put_size]; exact hsz, h.dfs, fun j hj => ?_, fun j x hx hj => ?_, fun hx => ?_, fun hx hy => ?_, fun hx hy => ?_, fun hx hy => ?_, fun hx => ?_⟩
  · rw [pg, if_neg (by omega)]; exact h.kept j hj
  · rw [pg]
    by_cases e : j = i
    · subst e
      rw [if_pos rfl]
      rw [hv] at hx
      exact Option.some.inj hx
    · rw [if_neg (by omega)]
      rw [hls, if_neg e] at hj
      exact h.val j x hx hj
  · rw [hls, if_neg (by omega)] at hx
    obtain ⟨a1, a2, a3, a4, a5⟩ := h.s0 hx
    exact ⟨a1, by rw [hls, if_neg (by omega)]; exact a2, by rw [hls, if_neg (by omega)]; exact a3, by rw [hls, if_neg (by omega)]; exact a4, by rw [hls, if_neg (by omega)]; exact a5⟩
  · rw [hls, if_neg (by omega)] at hx hy
    obtain ⟨a1, a2, dv, a3, a4, a5⟩ := h.s1 hx hy
    exact ⟨by rw [hls, if_neg (by omega)]; exact a1, by rw [hls, if_neg (by omega)]; exact a2, dv, by rw [pg, if_neg (by omega)]; exact a3, fun hz => by rw [hls, if_neg (by omega)] at hz; rw [pg, if_neg (by omega)]; exact a4 hz, a5⟩
  · rw [hls, if_neg (by omega)] at hx hy
    obtain ⟨a1, dv, u0, a2, a3⟩ := h.s2 hx hy
    exact ⟨by rw [hls, if_neg (by omega)]; exact a1, dv, u0, by rw [pg, if_neg (by omega)]; exact a2, a3⟩
  · rw [hls, if_neg (by omega)] at hx hy
    obtain ⟨dv, ea8, en8, ec8, a1, a2⟩ := h.s3 hx hy
    exact ⟨dv, ea8, en8, ec8, by rw [pg, if_neg (by omega)]; exact a1, a2⟩
  · rw [hls, if_neg (by omega)] at hx
    exact h.s4 hx
theorem run_bdX (t : Int) (o : Option Addr) (n c : Nat) (u : World) : (Instr.build 49 #[(0, .int .i64 t), (1, .slice o n c)]).run Try.prog u = .ok (.agg #[.int .i64 t, .slice o n c]) u := by kernel_rfl
theorem run_bsX (t : Int) (o : Option Addr) (n c : Nat) (u : World) : (Instr.buildSlice 26 1 #[(0, .agg #[.int .i64 t, .slice o n c])]).run Try.prog u = .ok (.slice (some ⟨u.heap.size, 0, none⟩) 1 1) (u.alloc (.cells #[.int .i64 t, .slice o n c] 49)) := by kernel_rfl
/-- the packet's block, ahead of the append -/
theorem XI.pcu {a0 : Act} {w w1 : World} {S sB sC : Value} {NI TY : Int} {ea : Option Addr} {en ec : Nat} {xs : List Xt} {dat : List Int} {cs : Array Value} {listed : Array Bool} {a : Act} {u : World} (h : XI a0 w w1 S sB sC NI TY ea en ec xs dat cs listed a u) (h0 : X0 a0 w w1 S sB sC NI TY ea en ec xs dat cs) (h12 : listed.getD 12 false = false) : PC w u cs := by
  cases h9 : listed.getD 9 false with
  | false => rw [(h.s0 h9).1]; exact h0.pc
  | true =>
    cases h11 : listed.getD 11 false with
    | false =>
      obtain ⟨_, _, dv, _, _, hb, _⟩ := h.s1 h9 h11
      exact h0.pc.below hb
    | true =>
      obtain ⟨_, dv, u0, _, rfl, hb, _⟩ := h.s2 h11 h12
      exact (h0.pc.below hb).below ((Below.refl _ _).alloc (Nat.le_refl _) _)
set_option maxRecDepth 20000 in
set_option maxHeartbeats 1000000 in
theorem x_step {Q : Exit → Act → World → Prop} {a0 : Act} {w w1 : World} {S sB sC : Value} {NI TY : Int} {ea : Option Addr} {en ec : Nat} {xs : List Xt} {dat : List Int} {cs : Array Value} (h0 : X0 a0 w w1 S sB sC NI TY ea en ec xs dat cs) (listed : Array Bool) (a : Act) (u : World) (i : Nat) (o : Oper) (hs : listed.size = (xOps Try.f18).size) (hI : XI a0 w w1 S sB sC NI TY ea en ec xs dat cs listed a u) (hcl : Cls (xOps Try.f18).toList listed) (hn : listed.getD i true = false) (ho : (xOps Try.f18)[i]? = some o) (hall : ∀ e ∈ o.after, Region.binds .any e = true → listed.getD e.on false = true) :
    wpOp Try.prog (xOps Try.f18) Q i (fun a' w' => XI a0 w w1 S sB sC NI TY ea en ec xs dat cs (listed.setIfInBounds i true) a' w') a u := by
  rw [x_size] at hs
  have hi : i < 15 := by
    rcases Nat.lt_or_ge i 15 with h | h
    · exact h
    · rw [Array.getD, dif_neg (by omega)] at hn; cases hn
  have hil : i < listed.size := by omega
  have hnf : listed.getD i false = false := by rw [getD_tf hil false true]; exact hn
  have eo : o = xO Try.f18 i := by rw [x_at i hi] at ho; exact (Option.some.inj ho).symm
  subst eo
  have hgd : (xO Try.f18 i).guard = none := by have := List.all_eq_true.1 x_gd i (List.mem_range.2 hi); simpa using this
  refine wpOp_of ho hgd ?_
  have dst : ∀ j, j < 15 → (xO Try.f18 j).dst = [some 120, some 121, some 122, some 123, some 124, some 125, some 126, some 127, some 128, some 129, some 130, some 131, some 132, some 133, none].getD j none := fun j hj => by
    rw [← x_dst, List.getD_eq_getElem?_getD, List.getElem?_map, List.getElem?_range hj]
    rfl
  have k0 : a.eval (.tmp 0) = S := (hI.kept 0 (by omega)).trans h0.t0
  have k5 : a.eval (.tmp 5) = .pointer (some ⟨w.heap.size + 2, 0, none⟩) := (hI.kept 5 (by omega)).trans h0.t5
  have k6 : a.eval (.tmp 6) = .int .i64 NI := (hI.kept 6 (by omega)).trans h0.t6
  have rd : ∀ (v : Value), xv (w.heap.size + 2) (.slice ea en ec) S sB sC NI TY i = some v → (execOp a.eval (xO Try.f18 i)).run Try.prog u = .ok (.value v) u → i < 14 → (xO Try.f18 i).dst = some (120 + i) → (xO Try.f18 i).wp Try.prog a u (fun a' w' => XI a0 w w1 S sB sC NI TY ea en ec xs dat cs (listed.setIfInBounds i true) a' w') Q := fun v hv hr h14 hd => by
    unfold Oper.wp
    rw [hr]
    show XI _ _ _ _ _ _ _ _ _ _ _ _ _ _ _ (a.put (xO Try.f18 i).dst v) u
    rw [hd]
    exact hI.read i hil v hv h14
  have lv : ∀ j v, xW Try.f18 i j = true → xv (w.heap.size + 2) (.slice ea en ec) S sB sC NI TY j = some v → a.eval (.tmp (120 + j)) = v := fun j v hw hv => hI.val j v hv (xW_spec hw hall)
  have clo : ∀ j t, j < 15 → listed.getD j false = true → needs (xOps Try.f18).toList (xO Try.f18 j) 4 t = true → listed.getD t false = true := fun j t hj hl ht => needs_listed hcl (fun e he hb => hcl j (xO Try.f18 j) (by rw [Array.getElem?_toList]; exact x_at j hj) hl e he hb) 4 t ht
  have uP := Try.underlying29
  have hls := fun j => ls_set hil j
  rcases (show i = 0 ∨ i = 1 ∨ i = 2 ∨ i = 3 ∨ i = 4 ∨ i = 5 ∨ i = 6 ∨ i = 7 ∨ i = 8 ∨ i = 9 ∨ i = 10 ∨ i = 11 ∨ i = 12 ∨ i = 13 ∨ i = 14 by omega) with rfl | rfl | rfl | rfl | rfl | rfl | rfl | rfl | rfl | rfl | rfl | rfl | rfl | rfl | rfl
  · refine rd _ rfl ?_ (by omega) (dst 0 (by omega))
    unfold execOp
    simp only [x_op0, k5]
    go_simp
  · have e := lv 0 _ (by kernel_rfl) rfl
    have n12 : listed.getD 12 false = false := by
      cases h : listed.getD 12 false with
      | false => rfl
      | true => have := clo 12 1 (by omega) h (by kernel_rfl); rw [hnf] at this; cases this
    have hc : u.cell? ⟨w.heap.size + 2, 13, none⟩ = some (.slice ea en ec) := by rw [(hI.pcu h0 n12).c.cell 13]; exact h0.c13
    refine rd _ rfl ?_ (by omega) (dst 1 (by omega))
    unfold execOp
    simp only [x_op1, e]
    have u2 := Try.underlying26
    go_simp
  · refine rd _ rfl ?_ (by omega) (dst 2 (by omega))
    unfold execOp
    simp only [x_op2, k0, Sem.run_pure]
  · have e := lv 2 _ (by kernel_rfl) rfl
    refine rd _ rfl ?_ (by omega) (dst 3 (by omega))
    have hr := h0.rB u
    unfold execOp
    simp only [x_op3, e]
    go_simp
  · have e := lv 3 _ (by kernel_rfl) rfl
    have hd : (xO Try.f18 4).dst = some 124 := dst 4 (by omega)
    have n12 : listed.getD 12 false = false := by
      cases h : listed.getD 12 false with
      | false => rfl
      | true => have := clo 12 4 (by omega) h (by kernel_rfl); rw [hnf] at this; cases this
    have hr : (execOp a.eval (xO Try.f18 4)).run Try.prog u = .ok (.enter 43 #[sB]) u := by
      unfold execOp
      simp only [x_op4]
      go_simp
      rw [← Array.getD_eq_getD_getElem?]
      exact e
    unfold Oper.wp
    rw [hr]
    refine (h0.gB u (hI.pcu h0 n12).bl).mono ?_
    rintro e' w' ⟨rfl, rfl⟩
    show XI _ _ _ _ _ _ _ _ _ _ _ _ _ _ _ (a.put (xO Try.f18 4).dst (.int .u64 TY)) _
    rw [hd]
    exact hI.read 4 hil _ rfl (by omega)
  · have e := lv 4 _ (by kernel_rfl) rfl
    have t0 := h0.ty0
    have t1 := h0.ty1
    have hw : IntKind.i64.wrap TY = TY := by rw [IntKind.wrap_i64]; omega
    refine rd _ rfl ?_ (by omega) (dst 5 (by omega))
    unfold execOp
    simp only [x_op5, e]
    go_simp
  · refine rd _ rfl ?_ (by omega) (dst 6 (by omega))
    unfold execOp
    simp only [x_op6, k0, Sem.run_pure]
  · refine rd _ rfl ?_ (by omega) (dst 7 (by omega))
    unfold execOp
    simp only [x_op7, k6, Sem.run_pure]
  · have e := lv 6 _ (by kernel_rfl) rfl
    have e7 := lv 7 _ (by kernel_rfl) rfl
    refine rd _ rfl ?_ (by omega) (dst 8 (by omega))
    have hr := h0.rC u
    have e7' : a.tmps[127]?.getD undef = .int .i64 NI := by rw [← Array.getD_eq_getD_getElem?]; exact e7
    unfold execOp
    simp only [x_op8, e]
    go_simp
  · have e := lv 8 _ (by kernel_rfl) rfl
    have hd : (xO Try.f18 9).dst = some 129 := dst 9 (by omega)
    obtain ⟨hu, n10, n11, n12, n14⟩ := hI.s0 hnf
    subst hu
    have hr : (execOp a.eval (xO Try.f18 9)).run Try.prog u = .ok (.enter 44 #[sC]) u := by
      unfold execOp
      simp only [x_op9]
      go_simp
      rw [← Array.getD_eq_getD_getElem?]
      exact e
    unfold Oper.wp
    rw [hr]
    refine (h0.cC u h0.pc.bl).mono ?_
    rintro e' w' ⟨dv, rfl, hb, hown⟩
    show XI _ _ _ _ _ _ _ _ _ _ _ _ _ _ _ (a.put (xO Try.f18 9).dst dv) _
    rw [hd]
    have pg := fun j => put_getD (a := a) (d := 129) dv (by have := hI.size; omega) j
    have hlt := h0.pc.c.lt
    refine ⟨by rw [put_size]; exact hI.size, hI.dfs, fun j hj => ?_, fun j x hx hj => ?_, fun hx => ?_, fun _ _ => ⟨?_, ?_, dv, ?_, fun hz => ?_, hb, hown.mono (by omega)⟩, fun hx _ => ?_, fun hx _ => ?_, fun hx => ?_⟩
    · rw [pg, if_neg (by omega)]; exact hI.kept j hj
    · have hne : j ≠ 9 := by rintro rfl; cases hx
      rw [pg, if_neg (by omega)]
      rw [hls, if_neg hne] at hj
      exact hI.val j x hx hj
    · rw [hls, if_pos rfl] at hx; cases hx
    · rw [hls, if_neg (by omega)]; exact n12
    · rw [hls, if_neg (by omega)]; exact n14
    · rw [pg, if_pos rfl]
    · rw [hls, if_neg (by omega), n10] at hz; cases hz
    · rw [hls, if_neg (by omega), n11] at hx; cases hx
    · rw [hls, if_neg (by omega), n12] at hx; cases hx
    · rw [hls, if_neg (by omega), n14] at hx; cases hx
  · have e := lv 5 _ (by kernel_rfl) rfl
    have l9 := xW_spec (i := 10) (k := 9) (by kernel_rfl) hall
    have hd : (xO Try.f18 10).dst = some 130 := dst 10 (by omega)
    have n11 : listed.getD 11 false = false := by
      cases h : listed.getD 11 false with
      | false => rfl
      | true => have := clo 11 10 (by omega) h (by kernel_rfl); rw [hnf] at this; cases this
    obtain ⟨n12, n14, dv, h129, _, hb, hown⟩ := hI.s1 l9 n11
    obtain ⟨ao, cap, hdv, _⟩ := hown.rs
    have e9 : a.eval (.tmp 129) = dv := h129
    obtain ⟨dn, hdn⟩ : ∃ dn, dat.length = dn := ⟨_, rfl⟩
    rw [hdn] at hdv
    have em : (#[((0 : Nat), Operand.tmp 125), (1, Operand.tmp 129)].map fun (p : Nat × Operand) => (p.1, a.eval p.2)) = #[(0, .int .i64 TY), (1, .slice ao dn cap)] := by simp [e, e9, hdv]
    have hr : (execOp a.eval (xO Try.f18 10)).run Try.prog u = .ok (.value (.agg #[.int .i64 TY, dv])) u := by
      unfold execOp
      simp only [x_op10, em, Sem.run_bind, Sem.run_pure, run_bdX, Result.andThen_ok, hdv]
    unfold Oper.wp
    rw [hr]
    show XI _ _ _ _ _ _ _ _ _ _ _ _ _ _ _ (a.put (xO Try.f18 10).dst (.agg #[.int .i64 TY, dv])) u
    rw [hd]
    have pg := fun j => put_getD (a := a) (d := 130) (.agg #[.int .i64 TY, dv]) (by have := hI.size; omega) j
    refine ⟨by rw [put_size]; exact hI.size, hI.dfs, fun j hj => ?_, fun j x hx hj => ?_, fun hx => ?_, fun _ _ => ⟨?_, ?_, dv, ?_, fun _ => ?_, hb, hown⟩, fun hx _ => ?_, fun hx _ => ?_, fun hx => ?_⟩
    · rw [pg, if_neg (by omega)]; exact hI.kept j hj
    · have hne : j ≠ 10 := by rintro rfl; cases hx
      rw [pg, if_neg (by omega)]
      rw [hls, if_neg hne] at hj
      exact hI.val j x hx hj
    · rw [hls, if_neg (by omega), l9] at hx; cases hx
    · rw [hls, if_neg (by omega)]; exact n12
    · rw [hls, if_neg (by omega)]; exact n14
    · rw [pg, if_neg (by omega)]; exact h129
    · rw [pg, if_pos rfl]
    · rw [hls, if_neg (by omega), n11] at hx; cases hx
    · rw [hls, if_neg (by omega), n12] at hx; cases hx
    · rw [hls, if_neg (by omega), n14] at hx; cases hx
  · have l10 := xW_spec (i := 11) (k := 10) (by kernel_rfl) hall
    have l9 : listed.getD 9 false = true := clo 10 9 (by omega) l10 (by kernel_rfl)
    have hd : (xO Try.f18 11).dst = some 131 := dst 11 (by omega)
    obtain ⟨n12, n14, dv, h129, h130, hb, hown⟩ := hI.s1 l9 hnf
    obtain ⟨ao, cap, hdv, _⟩ := hown.rs
    obtain ⟨dn, hdn⟩ : ∃ dn, dat.length = dn := ⟨_, rfl⟩
    rw [hdn] at hdv
    have e10 : a.eval (.tmp 130) = .agg #[.int .i64 TY, .slice ao dn cap] := (h130 l10).trans (by rw [hdv])
    have pg := fun j => put_getD (a := a) (d := 131) (.slice (some ⟨u.heap.size, 0, none⟩) 1 1) (by have := hI.size; omega) j
    unfold Oper.wp execOp
    simp only [x_op11, List.map_toArray, List.map_cons, List.map_nil, e10, Sem.run_bind, Sem.run_pure, run_bsX, Result.andThen_ok, Oper.upon, hd]
    refine ⟨by rw [put_size]; exact hI.size, hI.dfs, fun j hj => ?_, fun j x hx hj => ?_, fun hx => ?_, fun _ hx => ?_, fun _ _ => ⟨?_, dv, u, ?_, by rw [hdv], hb, hown⟩, fun hx _ => ?_, fun hx => ?_⟩
    · rw [pg, if_neg (by omega)]; exact hI.kept j hj
    · have hne : j ≠ 11 := by rintro rfl; cases hx
      rw [pg, if_neg (by omega)]
      rw [hls, if_neg hne] at hj
      exact hI.val j x hx hj
    · rw [hls, if_neg (by omega), l9] at hx; cases hx
    · rw [hls, if_pos rfl] at hx; cases hx
    · rw [hls, if_neg (by omega)]; exact n14
    · rw [pg, if_pos rfl]
    · rw [hls, if_neg (by omega), n12] at hx; cases hx
    · rw [hls, if_neg (by omega), n14] at hx; cases hx
  · have e1 := lv 1 _ (by kernel_rfl) rfl
    have l11 := xW_spec (i := 12) (k := 11) (by kernel_rfl) hall
    have l9 : listed.getD 9 false = true := clo 11 9 (by omega) l11 (by kernel_rfl)
    have hd : (xO Try.f18 12).dst = some 132 := dst 12 (by omega)
    obtain ⟨n14, dv, u0, h131, hu, hb, hown⟩ := hI.s2 l11 hnf
    subst hu
    have e11 : a.eval (.tmp 131) = .slice (some ⟨u0.heap.size, 0, none⟩) 1 1 := h131
    obtain ⟨ao, cap, hdv, _⟩ := hown.rs
    have pc0 : PC w u0 cs := h0.pc.below hb
    have ox0 : OX u0 (w.heap.size + 3) (.slice ea en ec) xs := h0.ox.below hb (Nat.le_refl _)
    have hlt := pc0.c.lt
    have key := step_appx (ops := xOps Try.f18) (E := True) (K := fun a' w' => XI a0 w w1 S sB sC NI TY ea en ec xs dat cs (listed.setIfInBounds 12 true) a' w') (Q := Q) hgd _ _ x_op12 (w.heap.size + 3) (.slice ea en ec) en (XU xs) e1 (ox0.alloc (.cells #[.int .i64 TY, dv] 49)).rowN u0.heap.size (.int .i64 TY) dv e11 (Bk.new _ _ _) rfl (by rw [hdv]; rfl) (by have := h0.ln; have := h0.en'; omega) (by simp; omega) (fun v' w' hr8 hg8 => ?_)
    · rw [if_pos (by simp [Region.wanted, hgd])] at key
      exact key
    · obtain ⟨ea8, en8, ec8, hv8, p8, o8⟩ := RL.app pc0 ox0 hown h0.en' hr8 hg8
      rw [hd]
      have pg := fun j => put_getD (a := a) (d := 132) v' (by have := hI.size; omega) j
      refine ⟨by rw [put_size]; exact hI.size, hI.dfs, fun j hj => ?_, fun j x hx hj => ?_, fun hx => ?_, fun _ hx => ?_, fun _ hx => ?_, fun _ _ => ⟨dv, ea8, en8, ec8, ?_, p8, by rw [← hv8]; exact o8⟩, fun hx => ?_⟩
      · rw [pg, if_neg (by omega)]; exact hI.kept j hj
      · have hne : j ≠ 12 := by rintro rfl; cases hx
        rw [pg, if_neg (by omega)]
        rw [hls, if_neg hne] at hj
        exact hI.val j x hx hj
      · rw [hls, if_neg (by omega), l9] at hx; cases hx
      · rw [hls, if_neg (by omega), l11] at hx; cases hx
      · rw [hls, if_pos rfl] at hx; cases hx
      · rw [pg, if_pos rfl]; exact hv8
      · rw [hls, if_neg (by omega), n14] at hx; cases hx
  · refine rd _ rfl ?_ (by omega) (dst 13 (by omega))
    unfold execOp
    simp only [x_op13, k5]
    go_simp
  · have e13 := lv 13 _ (by kernel_rfl) rfl
    have l12 := xW_spec (i := 14) (k := 12) (by kernel_rfl) hall
    have l11 : listed.getD 11 false = true := clo 12 11 (by omega) l12 (by kernel_rfl)
    have l9 : listed.getD 9 false = true := clo 12 9 (by omega) l12 (by kernel_rfl)
    have hd : (xO Try.f18 14).dst = none := dst 14 (by omega)
    obtain ⟨dv, ea8, en8, ec8, h132, p8, o8⟩ := hI.s3 l12 hnf
    have e12 : a.eval (.tmp 132) = .slice ea8 en8 ec8 := h132
    have hc : u.cell? ⟨w.heap.size + 2, 13, none⟩ = some (.slice ea en ec) := by rw [p8.c.cell 13]; exact h0.c13
    have hf := p8.c.frozen 13
    have u2 := Try.underlying26
    unfold Oper.wp execOp
    simp only [x_op14, e13, e12]
    go_simp
    refine ⟨hI.size, hI.dfs, hI.kept, fun j x hx hj => ?_, fun hx => ?_, fun _ hx => ?_, fun _ hx => ?_, fun _ hx => ?_, fun _ => ⟨dv, ea8, en8, ec8, p8.set 13 _, o8.low (by omega)⟩⟩
    · have hne : j ≠ 14 := by rintro rfl; cases hx
      rw [hls, if_neg hne] at hj
      exact hI.val j x hx hj
    · rw [hls, if_neg (by omega), l9] at hx; cases hx
    · rw [hls, if_neg (by omega), l11] at hx; cases hx
    · rw [hls, if_neg (by omega), l12] at hx; cases hx
    · rw [hls, if_pos rfl] at hx; cases hx
end Go.Proofs.Ytdobghhjlfffpaa
