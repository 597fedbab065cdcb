/- assoc: Dispatch of both. -/
import Derived.Test.YtnjdmkgkpdebdaaKM
namespace Go.Proofs.Ytnjdmkgkpdebdaa
open Go Go.RowKit Go.Sort Go.Maps
set_option linter.unusedVariables false
theorem ls_set {listed : Array Bool} {i : Nat} (hi : i < listed.size) (k : Nat) : (listed.setIfInBounds i true).getD k false = if k = i then true else listed.getD k false := by
  by_cases e : k = i
  · subst e; rw [if_pos rfl]; simp [hi]
  · rw [if_neg e, getD_set_ne false (by omega)]
theorem put_getD {a : Act} {d : Nat} (v : Value) (hd : d < a.tmps.size) (k : Nat) : (a.put (some d) v).tmps.getD k undef = if k = d then v else a.tmps.getD k undef := by
  show (a.tmps.setIfInBounds d v).getD k undef = _
  by_cases e : k = d
  · subst e; rw [if_pos rfl]; simp [hd]
  · rw [if_neg e]; simp [Array.getD_eq_getD_getElem?, Ne.symm e]
theorem put_size (a : Act) (d : Nat) (v : Value) : (a.put (some d) v).tmps.size = a.tmps.size := by
  show (a.tmps.setIfInBounds d v).size = _
  simp
theorem put_dfs (a : Act) (d : Nat) (v : Value) : (a.put (some d) v).defers = a.defers := rfl
theorem cnt_set' {listed : Array Bool} {i : Nat} (h0 : listed.getD i true = false) : (listed.setIfInBounds i true).toList.count false + 1 = listed.toList.count false := by
  rw [Array.toList_setIfInBounds]
  refine cnt_down ?_
  unfold Array.getD at h0
  split at h0
  · rename_i h; rw [Array.getElem?_toList, Array.getElem?_eq_getElem h]; simpa using h0
  · cases h0
theorem cnt_le' (listed : Array Bool) : listed.toList.count false ≤ listed.size := by
  rw [← Array.length_toList]; exact List.count_le_length
theorem wpOp_of {ops : Array Oper} {Q : Exit → Act → World → Prop} {i : Nat} {K : Act → World → Prop} {a : Act} {w : World} {o : Oper} (ho : ops[i]? = some o) (hg : o.guard = none) (h : o.wp Try.prog a w K Q) : wpOp Try.prog ops Q i K a w := by
  unfold wpOp
  rw [ho]
  simp only [Region.wanted, hg, if_true]
  exact .inl h
theorem run_pair (k m : Int) (u : World) : (Instr.build 92 #[(0, .int .i64 k), (1, .int .i64 m)]).run Try.prog u = .ok (prV k m) u := by kernel_rfl
theorem ds_step {Q : Exit → Act → World → Prop} {kind mode : Int} {w0 : World} {df : List Deferred} (listed : Array Bool) (a : Act) (w : World) (i : Nat) (o : Oper) (hs : listed.size = (dsOps Try.f12).size) (hI : DsI kind mode w0 df listed a w) (h0 : listed.getD i true = false) (ho : (dsOps Try.f12)[i]? = some o) (hall : ∀ e ∈ o.after, Region.binds .any e = true → listed.getD e.on false = true) :
    wpOp Try.prog (dsOps Try.f12) Q i (fun a' w' => DsI kind mode w0 df (listed.setIfInBounds i true) a' w') a w := by
  rw [ds_size] at hs
  have hi : i < 45 := by
    rcases Nat.lt_or_ge i 45 with h | h
    · exact h
    · rw [Array.getD, dif_neg (by omega)] at h0; cases h0
  have hil : i < listed.size := by omega
  have h0f : listed.getD i false = false := by rw [getD_tf hil false true]; exact h0
  have eo : o = dsO Try.f12 i := by rw [ds_at i hi] at ho; exact (Option.some.inj ho).symm
  subst eo
  have hgd := ds_guard i hi
  have hls := fun k => ls_set hil k
  have hct := cnt_set' h0
  refine wpOp_of ho hgd ?_
  have hsz := hI.size
  rcases (show i = 0 ∨ (i % 2 = 1 ∧ i < 43) ∨ (i % 2 = 0 ∧ 0 < i ∧ i < 43) ∨ i = 43 ∨ i = 44 by omega) with rfl | ⟨h1, h2⟩ | ⟨h1, h2, h3⟩ | rfl | rfl
  · -- the map is made
    have op0 : (dsO Try.f12 0).op = .makeMap 93 none := by kernel_rfl
    have d0 : (dsO Try.f12 0).dst = some 6 := by kernel_rfl
    unfold Oper.wp execOp
    simp only [op0, Option.map_none, Sem.run_bind, Sem.run_pure, run_makeMap, Result.andThen_ok, Oper.upon, d0]
    obtain ⟨n1, n2, n3⟩ := hI.nos h0f
    refine ⟨by rw [put_size]; exact hsz, by rw [put_dfs]; exact hI.dfs, by rw [put_getD _ (by omega)]; exact hI.t0, by rw [put_getD _ (by omega)]; exact hI.t1, hI.be.alloc hI.be.size _, fun j hj h => ?_, fun h => ?_, fun _ => ?_⟩
    · rw [put_getD _ (by omega), if_neg (by omega)]
      rw [hls, if_neg (by omega)] at h
      exact hI.keys j hj h
    · rw [hls, if_pos rfl] at h; cases h
    · have hc := cnt_le' listed
      refine ⟨w.heap.size, 0, fun _ _ => 0, hI.be.size, by rw [put_getD _ (by omega), if_pos rfl], Mp.made w, by omega, fun j hj h => ?_, fun _ _ _ => rfl, fun h => ?_, fun h => ?_⟩
      · rw [hls, if_neg (by omega), n1 j hj] at h; cases h
      · rw [hls, if_neg (by omega), n2] at h; cases h
      · rw [hls, if_neg (by omega), n3] at h; cases h
  · obtain ⟨j0, rfl⟩ : ∃ j, i = 2 * j + 1 := ⟨i / 2, by omega⟩
    have hB := ds_b j0 (by omega)
    unfold Oper.wp execOp
    have e : (#[((0 : Nat), Operand.const (.int .i64 (kvK j0))), (1, Operand.const (.int .i64 (kvM j0)))].map fun (p : Nat × Operand) => (p.1, a.eval p.2)) = #[(0, .int .i64 (kvK j0)), (1, .int .i64 (kvM j0))] := by simp [Act.eval]
    simp only [hB.bo, e, Sem.run_bind, Sem.run_pure, run_pair, Result.andThen_ok, Oper.upon, hB.bd]
    have h7 : 7 + j0 < a.tmps.size := by omega
    refine ⟨by rw [put_size]; exact hsz, by rw [put_dfs]; exact hI.dfs, by rw [put_getD _ h7, if_neg (by omega)]; exact hI.t0, by rw [put_getD _ h7, if_neg (by omega)]; exact hI.t1, hI.be, fun j hj h => ?_, fun h => ?_, fun h => ?_⟩
    · rw [put_getD _ h7]
      by_cases e : j = j0
      · subst e; rw [if_pos rfl]
      · rw [if_neg (by omega)]
        rw [hls, if_neg (by omega)] at h
        exact hI.keys j hj h
    · rw [hls, if_neg (by omega)] at h
      obtain ⟨n1, n2, n3⟩ := hI.nos h
      refine ⟨fun j hj => ?_, ?_, ?_⟩
      · rw [hls, if_neg (by omega)]; exact n1 j hj
      · rw [hls, if_neg (by omega)]; exact n2
      · rw [hls, if_neg (by omega)]; exact n3
    · rw [hls, if_neg (by omega)] at h
      obtain ⟨b, n, f, m1, m2, m3, m4, m5, m6, m7, m8⟩ := hI.map h
      refine ⟨b, n, f, m1, by rw [put_getD _ h7, if_neg (by omega)]; exact m2, m3, by omega, fun j hj h => ?_, fun k m h => ?_, fun h => ?_, fun h => ?_⟩
      · rw [hls, if_neg (by omega)] at h; exact m5 j hj h
      · exact m6 k m fun j hj h' => h j hj (by rw [hls, if_neg (by omega)]; exact h')
      · rw [hls, if_neg (by omega)] at h; rw [put_getD _ h7, if_neg (by omega)]; exact m7 h
      · rw [hls, if_neg (by omega)] at h; rw [put_getD _ h7, if_neg (by omega)]; exact m8 h
  · obtain ⟨j0, rfl⟩ : ∃ j, i = 2 * j + 2 := ⟨(i - 2) / 2, by omega⟩
    have hj0 : j0 < 21 := by omega
    have hB := ds_b j0 hj0
    have l0 := waits_spec hB.w0 hall
    have l1 := waits_spec hB.w1 hall
    obtain ⟨b, n, f, m1, m2, m3, m4, m5, m6, m7, m8⟩ := hI.map l0
    have hn : n < maxLen := by simp only [maxLen]; omega
    obtain ⟨w', g1, g2, g3⟩ := m3.put hn hB.wk hB.wm hB.wv
    have e6 : a.eval (.tmp 6) = .map (some b) := m2
    have e7 : a.eval (.tmp (7 + j0)) = prV (kvK j0) (kvM j0) := hI.keys j0 hj0 l1
    have e8 : a.eval (.const (.int .i64 (kvV j0))) = .int .i64 (kvV j0) := rfl
    unfold Oper.wp execOp
    simp only [hB.io, e6, e7, e8, Sem.run_bind, Sem.run_pure, g1, Result.andThen_ok, Oper.upon, hB.idd, put_none]
    refine ⟨hsz, hI.dfs, hI.t0, hI.t1, ?_, fun j hj h => ?_, fun h => ?_, fun _ => ?_⟩
    · exact hI.be.trans ⟨g3.os, g3.tape, g3.output, g3.size, fun k hk => g3.block k (Nat.lt_of_lt_of_le hk hI.be.size) (fun e => by injection e with e; omega)⟩
    · rw [hls, if_neg (by omega)] at h; exact hI.keys j hj h
    · rw [hls, if_neg (by omega)] at h; rw [h] at l0; cases l0
    · refine ⟨b, n + 1, _, m1, m2, g2, by omega, fun j hj h => ?_, fun k m h => ?_, fun h => ?_, fun h => ?_⟩
      · rw [hls] at h
        by_cases e : j = j0
        · subst e; rw [if_pos ⟨rfl, rfl⟩]
        · rw [if_neg (by omega)] at h
          rw [if_neg (fun h2 => e (kv_inj j j0 hj hj0 h2))]
          exact m5 j hj h
      · rw [if_neg]
        · exact m6 k m fun j hj h' => h j hj (by rw [hls]; split <;> first | rfl | exact h')
        · rintro ⟨rfl, rfl⟩
          exact h j0 hj0 (by rw [hls, if_pos rfl]) ⟨rfl, rfl⟩
      · rw [hls, if_neg (by omega)] at h; exact m7 h
      · rw [hls, if_neg (by omega)] at h; exact m8 h
  · have op0 : (dsO Try.f12 43).op = .move (.tmp 6) := by kernel_rfl
    have d0 : (dsO Try.f12 43).dst = some 28 := by kernel_rfl
    have l0 := waits_spec (i := 43) (k := 0) (by kernel_rfl) hall
    obtain ⟨b, n, f, m1, m2, m3, m4, m5, m6, m7, m8⟩ := hI.map l0
    have e6 : a.eval (.tmp 6) = .map (some b) := m2
    unfold Oper.wp execOp
    simp only [op0, e6, Sem.run_pure, Oper.upon, d0]
    refine ⟨by rw [put_size]; exact hsz, by rw [put_dfs]; exact hI.dfs, by rw [put_getD _ (by omega)]; exact hI.t0, by rw [put_getD _ (by omega)]; exact hI.t1, hI.be, fun j hj h => ?_, fun h => ?_, fun _ => ?_⟩
    · rw [hls, if_neg (by omega)] at h
      rw [put_getD _ (by omega), if_neg (by omega)]
      exact hI.keys j hj h
    · rw [hls, if_neg (by omega)] at h; rw [h] at l0; cases l0
    · refine ⟨b, n, f, m1, by rw [put_getD _ (by omega), if_neg (by omega)]; exact m2, m3, by omega, fun j hj h => ?_, fun k m h => ?_, fun h => ?_, fun h => ?_⟩
      · rw [hls, if_neg (by omega)] at h; exact m5 j hj h
      · exact m6 k m fun j hj h' => h j hj (by rw [hls, if_neg (by omega)]; exact h')
      · rw [put_getD _ (by omega), if_pos rfl]
      · rw [hls, if_neg (by omega)] at h; rw [put_getD _ (by omega), if_neg (by omega)]; exact m8 h
  · have op0 : (dsO Try.f12 44).op = .assign (.tmp 28) := by kernel_rfl
    have d0 : (dsO Try.f12 44).dst = some 5 := by kernel_rfl
    have l43 := waits_spec (i := 44) (k := 43) (by kernel_rfl) hall
    have l0 : listed.getD 0 false = true := by
      cases h : listed.getD 0 false with
      | true => rfl
      | false => have := (hI.nos h).2.1; rw [l43] at this; cases this
    obtain ⟨b, n, f, m1, m2, m3, m4, m5, m6, m7, m8⟩ := hI.map l0
    have e6 : a.eval (.tmp 28) = .map (some b) := m7 l43
    unfold Oper.wp execOp
    simp only [op0, e6, Sem.run_pure, Oper.upon, d0]
    refine ⟨by rw [put_size]; exact hsz, by rw [put_dfs]; exact hI.dfs, by rw [put_getD _ (by omega)]; exact hI.t0, by rw [put_getD _ (by omega)]; exact hI.t1, hI.be, fun j hj h => ?_, fun h => ?_, fun _ => ?_⟩
    · rw [hls, if_neg (by omega)] at h
      rw [put_getD _ (by omega), if_neg (by omega)]
      exact hI.keys j hj h
    · rw [hls, if_neg (by omega)] at h; rw [h] at l0; cases l0
    · refine ⟨b, n, f, m1, by rw [put_getD _ (by omega), if_neg (by omega)]; exact m2, m3, by omega, fun j hj h => ?_, fun k m h => ?_, fun h => ?_, fun h => ?_⟩
      · rw [hls, if_neg (by omega)] at h; exact m5 j hj h
      · exact m6 k m fun j hj h' => h j hj (by rw [hls, if_neg (by omega)]; exact h')
      · rw [hls, if_neg (by omega)] at h; rw [put_getD _ (by omega), if_neg (by omega)]; exact m7 h
      · rw [put_getD _ (by omega), if_pos rfl]
/-- what a packet is for -/
def dsN (k m : Int) : Int :=
  if k < 0 ∨ 9 < k then 0 else if m = 1 then (if k = 0 then 3 else if k = 2 ∨ k = 7 then 2 else 0) else if m = 2 then (if k = 2 then 2 else 0) else if m = 3 then 1 else if m = 4 then (if k = 0 then 5 else if k = 1 ∨ k = 9 ∨ k = 4 ∨ k = 5 then 2 else 0) else if m = 5 then (if k = 0 then 4 else if k = 8 then 2 else 0) else 0
theorem ds_fw' (i : Nat) (o : Oper) (ho : (dsOps Try.f12)[i]? = some o) (e : Edge) (he : e ∈ o.after) (hb : Region.binds .any e = true) : e.on < i := by
  have hi : i < 45 := by
    rcases Nat.lt_or_ge i 45 with h | h
    · exact h
    · rw [Array.getElem?_eq_none (by rw [ds_size]; exact h)] at ho; cases ho
  rw [ds_at i hi] at ho
  injection ho with ho
  subst ho
  have := (Array.all_eq_true_iff_forall_mem.1 (List.all_eq_true.1 ds_fw i (List.mem_range.2 hi))) e he
  rw [hb] at this
  have h2 : e.on + 1 ≤ i := by simpa using this
  omega
theorem kv_some (k m : Int) (h : dsN k m ≠ 0) : ∃ j, j < 21 ∧ kvK j = k ∧ kvM j = m := by
  have hk : 0 ≤ k ∧ k ≤ 9 := by
    rcases (show (k < 0 ∨ 9 < k) ∨ (0 ≤ k ∧ k ≤ 9) by omega) with h1 | h1
    · exact absurd (by unfold dsN; rw [if_pos h1]) h
    · exact h1
  have hm : m = 1 ∨ m = 2 ∨ m = 3 ∨ m = 4 ∨ m = 5 := by
    rcases (show (m = 1 ∨ m = 2 ∨ m = 3 ∨ m = 4 ∨ m = 5) ∨ (m ≠ 1 ∧ m ≠ 2 ∧ m ≠ 3 ∧ m ≠ 4 ∧ m ≠ 5) by omega) with h1 | ⟨h1, h2, h3, h4, h5⟩
    · exact h1
    · exact absurd (by unfold dsN; rw [if_neg (by omega), if_neg h1, if_neg h2, if_neg h3, if_neg h4, if_neg h5]) h
  have key : ∀ k' : Fin 10, ∀ m' : Fin 5, dsN ((k'.val : Int)) ((m'.val : Int) + 1) ≠ 0 → ∃ j : Fin 21, kvK j.val = k'.val ∧ kvM j.val = (m'.val : Int) + 1 := by decide
  have hk2 : (k.toNat : Int) = k := Int.toNat_of_nonneg hk.1
  have hm2 : (((m - 1).toNat : Nat) : Int) = m - 1 := Int.toNat_of_nonneg (by omega)
  obtain ⟨j, e1, e2⟩ := key ⟨k.toNat, by omega⟩ ⟨(m - 1).toNat, by omega⟩ (by simp only [hk2, hm2]; rw [Int.sub_add_cancel]; exact h)
  exact ⟨j.val, j.isLt, by simpa only [hk2] using e1, by simp only [hm2] at e2; omega⟩
theorem kv_ds : ((List.range 21).all fun j => dsN (kvK j) (kvM j) == kvV j) = true := by decide
theorem ds_all {kind mode : Int} {w0 : World} {df : List Deferred} {listed : Array Bool} {a : Act} {w : World} (h : DsI kind mode w0 df listed a w) (hall : ∀ i, i < (dsOps Try.f12).size → listed.getD i false = true) :
    ∃ b n f, a.tmps.getD 5 undef = .map (some b) ∧ Mp w b n f ∧ (∀ k m, f k m = dsN k m) := by
  rw [ds_size] at hall
  obtain ⟨b, n, f, m1, m2, m3, m4, m5, m6, m7, m8⟩ := h.map (hall 0 (by omega))
  refine ⟨b, n, f, m8 (hall 44 (by omega)), m3, fun k m => ?_⟩
  by_cases hz : dsN k m = 0
  · rw [hz]
    refine m6 k m fun j hj _ ⟨e1, e2⟩ => ?_
    have h1 := List.all_eq_true.1 kv_ds j (List.mem_range.2 hj)
    rw [e1, e2, hz] at h1
    have h2 : kvV j = 0 := by
      have : 0 = kvV j := by simpa using h1
      exact this.symm
    have h3 : ((List.range 21).all fun j => kvV j != 0) = true := by decide
    have h4 := List.all_eq_true.1 h3 j (List.mem_range.2 hj)
    rw [h2] at h4
    cases h4
  · obtain ⟨j, hj, rfl, rfl⟩ := kv_some k m hz
    have h1 := List.all_eq_true.1 kv_ds j (List.mem_range.2 hj)
    rw [m5 j hj (hall _ (by omega))]
    have : dsN (kvK j) (kvM j) = kvV j := by simpa using h1
    exact this.symm
/-- a frame of thirty-four, as letters -/
theorem frame34 (A : Array Value) (h : A.size = 34) : ∃ v0 v1 v2 v3 v4 v5 v6 v7 v8 v9 v10 v11 v12 v13 v14 v15 v16 v17 v18 v19 v20 v21 v22 v23 v24 v25 v26 v27 v28 v29 v30 v31 v32 v33, A = (v0 :: v1 :: v2 :: v3 :: v4 :: v5 :: v6 :: v7 :: v8 :: v9 :: v10 :: v11 :: v12 :: v13 :: v14 :: v15 :: v16 :: v17 :: v18 :: v19 :: v20 :: v21 :: v22 :: v23 :: v24 :: v25 :: v26 :: v27 :: v28 :: v29 :: v30 :: v31 :: v32 :: v33 :: []).toArray := by
  refine ⟨A.getD 0 undef, A.getD 1 undef, A.getD 2 undef, A.getD 3 undef, A.getD 4 undef, A.getD 5 undef, A.getD 6 undef, A.getD 7 undef, A.getD 8 undef, A.getD 9 undef, A.getD 10 undef, A.getD 11 undef, A.getD 12 undef, A.getD 13 undef, A.getD 14 undef, A.getD 15 undef, A.getD 16 undef, A.getD 17 undef, A.getD 18 undef, A.getD 19 undef, A.getD 20 undef, A.getD 21 undef, A.getD 22 undef, A.getD 23 undef, A.getD 24 undef, A.getD 25 undef, A.getD 26 undef, A.getD 27 undef, A.getD 28 undef, A.getD 29 undef, A.getD 30 undef, A.getD 31 undef, A.getD 32 undef, A.getD 33 undef, ?_⟩
  refine Array.ext (by simp [h]) fun i h1 h2 => ?_
  have hi : i < 34 := by omega
  have hg : ∀ k (hk : k < A.size), A[k] = A.getD k undef := fun k hk => by simp [Array.getD, hk]
  rw [hg i h1]
  rcases (show i = 0 ∨ i = 1 ∨ i = 2 ∨ i = 3 ∨ i = 4 ∨ i = 5 ∨ i = 6 ∨ i = 7 ∨ i = 8 ∨ i = 9 ∨ i = 10 ∨ i = 11 ∨ i = 12 ∨ i = 13 ∨ i = 14 ∨ i = 15 ∨ i = 16 ∨ i = 17 ∨ i = 18 ∨ i = 19 ∨ i = 20 ∨ i = 21 ∨ i = 22 ∨ i = 23 ∨ i = 24 ∨ i = 25 ∨ i = 26 ∨ i = 27 ∨ i = 28 ∨ i = 29 ∨ i = 30 ∨ i = 31 ∨ i = 32 ∨ i = 33 by omega) with rfl | rfl | rfl | rfl | rfl | rfl | rfl | rfl | rfl | rfl | rfl | rfl | rfl | rfl | rfl | rfl | rfl | rfl | rfl | rfl | rfl | rfl | rfl | rfl | rfl | rfl | rfl | rfl | rfl | rfl | rfl | rfl | rfl | rfl <;> rfl
theorem rep_getD (n i : Nat) : (Array.replicate n false).getD i false = false := by
  unfold Array.getD
  split <;> simp
set_option maxRecDepth 20000 in
theorem dispatch_any (kind mode : Int) (w : World) (hk : (Lit.int .i64 kind).wf = true) (hm : (Lit.int .i64 mode).wf = true) : Calls Try.prog 12 #[.int .i64 kind, .int .i64 mode] w fun e w' => e = .returned (.int .i64 (dsN kind mode)) ∧ Below w.heap.size w w' := by
  have HK : Hid ((Lit.int .i64 kind).wf = true ∧ (Lit.int .i64 mode).wf = true) := ⟨hk, hm⟩
  clear hk hm
  go_enter Try.func12, Try.ntmps12
  refine post_hid fun Q hQ => ?_
  refine seq_hid fun R hR => ?_
  go_wp2_with fail
  rw [hR.out]
  clear hR
  refine seq_hid fun R hR => ?_
  have key : ∀ (ops : Array Oper) (a : Act) (Q : Exit → Act → World → Prop), ops = (dsOps Try.f12) → DsI kind mode w a.defers (Array.replicate ops.size false) a w → (∀ a' w', a'.defers = a.defers → a'.tmps.size = 34 → a'.tmps.getD 0 undef = .int .i64 kind → a'.tmps.getD 1 undef = .int .i64 mode → Below w.heap.size w w' → (∃ b n f, a'.tmps.getD 5 undef = .map (some b) ∧ Mp w' b n f ∧ (∀ k m, f k m = dsN k m)) → Q .normal a' w') → (Code.region 1 ops true).wp Try.prog Q a w := fun ops a Q e hI hend => by
    subst e
    refine wp_region_inv rfl ds_fw' (DsI kind mode w a.defers) ?_ ds_step (fun listed a' w' h hall => hend a' w' h.dfs h.size h.t0 h.t1 h.be (ds_all h hall))
    exact ⟨hI.size, hI.dfs, hI.t0, hI.t1, below_drew hI.be, hI.keys, hI.nos, fun h => by simp [ds_size] at h⟩
  go_wp2_with fail
  refine key _ _ _ (by kernel_rfl) ?_ ?_
  · refine ⟨by rfl, by rfl, by rfl, by rfl, Below.refl _ _, fun j hj h => ?_, fun _ => ⟨fun j hj => rep_getD _ _, rep_getD _ _, rep_getD _ _⟩, fun h => ?_⟩
    · rw [rep_getD] at h; cases h
    · rw [rep_getD] at h; cases h
  clear key
  rename_i KK hKK
  intro a' w' e1 e2 e3 e4 e5 e6
  have HB : Hid (Below w.heap.size w w') := e5
  obtain ⟨b, n, f, e7, e8, e9⟩ := e6
  have L := e8.get HK.out.1 HK.out.2
  rw [e9] at L
  obtain ⟨N, hN⟩ : ∃ N, dsN kind mode = N := ⟨_, rfl⟩
  rw [hN] at L
  have HN : Hid (dsN kind mode = N) := hN
  clear hN e5 e8 e9
  obtain ⟨tm, df⟩ := a'
  simp only at e1 e2 e3 e4 e7
  obtain ⟨v0, v1, v2, v3, v4, v5, v6, v7, v8, v9, v10, v11, v12, v13, v14, v15, v16, v17, v18, v19, v20, v21, v22, v23, v24, v25, v26, v27, v28, v29, v30, v31, v32, v33, rfl⟩ := frame34 tm e2
  have f0 : v0 = .int .i64 kind := e3
  have f1 : v1 = .int .i64 mode := e4
  have f5 : v5 = .map (some b) := e7
  subst f0 f1 f5
  clear e2 e3 e4 e7
  have e1' : df = [] := e1
  subst e1'
  have rp := run_pair kind mode
  refine hKK _ _ ?_
  clear hKK
  rw [hR.out]
  clear hR
  unfold prV at L rp
  go_wp2_with fail
  rw [hQ.out]
  go_ret
  exact ⟨by rw [HN.out]; rfl, HB.out⟩
set_option maxHeartbeats 2000000 in
theorem rdispatch_any (kind mode : Int) (w : World) : Calls Try.prog 13 #[.int .i64 kind, .int .i64 mode] w fun e w' => e = .returned (.int .i64 (dsN kind mode)) ∧ w' = w := by
  unfold dsN
  go_enter Try.func13, Try.ntmps13
  go_wp2_with fail
  all_goals
    go_ret
    exact ⟨ret_int' (by simp_all), rfl⟩
end Go.Proofs.Ytnjdmkgkpdebdaa
