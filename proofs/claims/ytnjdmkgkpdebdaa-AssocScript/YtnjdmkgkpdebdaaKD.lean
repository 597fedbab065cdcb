/- assoc: Get, answers, mayMobilise, toldBy, foundBy. -/
import Derived.Test.YtnjdmkgkpdebdaaKC
namespace Go.Proofs.Ytnjdmkgkpdebdaa
open Go Go.RowKit Go.Sort
def zMb : Mb := ⟨0, 0, ⟨0, 0, 0, 0, 0, false, false, false, 0, false, 0, 0⟩, 0, 0, 0⟩
/-- an entry, within a member's block -/
theorem mb_en {w : World} {m : Mb} (h : Bk m.b w (mbL m).toArray 77) : ∀ j u, (enL m)[j]? = some u → w.cell? ((⟨m.b, 0, none⟩ : Addr).add j) = some u := by
  intro j u hu
  rw [add_own, h.cell]
  have hj : j < 15 := by
    rcases Nat.lt_or_ge j 15 with h | h
    · exact h
    · rw [List.getElem?_eq_none (by simpa [enL] using h)] at hu; cases hu
  rcases (show j = 0 ∨ j = 1 ∨ j = 2 ∨ j = 3 ∨ j = 4 ∨ j = 5 ∨ j = 6 ∨ j = 7 ∨ j = 8 ∨ j = 9 ∨ j = 10 ∨ j = 11 ∨ j = 12 ∨ j = 13 ∨ j = 14 by omega) with rfl | rfl | rfl | rfl | rfl | rfl | rfl | rfl | rfl | rfl | rfl | rfl | rfl | rfl | rfl <;> simpa [enL, mbL] using hu
/-- what Get hands out -/
def geM (ms : List (Option Mb)) (id : Int) : Mb := (atM ms id).getD zMb
theorem atM_mem {ms : List (Option Mb)} {id : Int} {m : Mb} (h : atM ms id = some m) : ∃ i : Nat, ms[i]? = some (some m) ∧ id = (i : Int) + 1 ∧ i < 16 := by
  unfold atM at h
  split at h
  · rename_i hi
    exact ⟨(id - 1).toNat, getD_some h, by omega, by omega⟩
  · cases h
theorem results_ct {fn : Func} {p u : Tmp} {ty : TypeId} (h : fn.results = #[.cell p ty, .tmp u]) (tmps : Array Value) (w : World) (g : Nat) (t : TypeId) (cs : List Value) (d : TypeDesc) (x : Value)
    (hx : tmps.getD u undef = x) (hp : tmps.getD p undef = .pointer (some ⟨g, 0, none⟩)) (hg : w.heap[g]? = some (.cells cs.toArray t (0, 0)))
    (hu : Try.prog.underlying ty = some d) (hd : d.isRow = true) (hi : (Try.prog.info? ty).map (·.size) = some cs.length) :
    (results fn tmps).run Try.prog w = .ok (.tuple #[.agg cs.toArray, x]) w := by
  have hp' : tmps[p]?.getD undef = .pointer (some ⟨g, 0, none⟩) := by simpa using hp
  have hx' : tmps[u]?.getD undef = x := by simpa using hx
  simp [results, h, hp', hx', asAddr, run_loadVar_at w ⟨g, 0, none⟩ ty cs d (cells_of hg) hu hd hi]
set_option maxHeartbeats 1000000 in
theorem get_any (q : Nat) (ms : List (Option Mb)) (id : Int) (w : World) (h : Tb w q ms) : Calls Try.prog 18 #[.pointer (some ⟨q, 0, none⟩), .int .i64 id] w fun e w' => e = .returned (.tuple #[.agg (enL (geM ms id)).toArray, .bool (atM ms id).isSome]) ∧ Below w.heap.size w w' := by
  have HT : Hid (Tb w q ms) := h
  clear h
  unfold geM
  obtain ⟨x, hx⟩ : ∃ x, atM ms id = x := ⟨_, rfl⟩
  have HX : Hid (atM ms id = x) := hx
  rw [hx]
  clear hx
  go_enter Try.func18, Try.ntmps18
  refine post_hid fun Q hQ => ?_
  refine seq_hid fun R hR => ?_
  go_wp2_with fail
  refine world_hid fun W hW => ?_
  have HW : Hid (Bk w.heap.size W (enL zMb).toArray 62 ∧ Below w.heap.size w W ∧ Tb W q ms) := by
    rw [hW.out]
    have hb := below_alloc (Below.refl w.heap.size w) (.cells (enL zMb).toArray 62)
    exact ⟨Bk.new _ _ _, hb, HT.out.below hb⟩
  clear hW
  rw [hR.out]
  clear hR
  cases x with
  | none =>
    go_wp2_with (first
      | (go_at_call 39; refine (at_any q ms id W HW.out.2.2).mono ?_; rintro e w1 ⟨rfl, hw1⟩; rw [HX.out, hw1]; unfold ptr; simp only)
      | (refine step_stR (by rfl) _ _ rfl w.heap.size (enL zMb).toArray (by rfl) (by rfl) (enL zMb).toArray (by kernel_rfl) (by kernel_rfl) (by kernel_rfl) HW.out.1 ?_))
    rw [hQ.out]
    exact bodyPost_ret (v := .tuple #[.agg (enL zMb).toArray, .bool false]) (results_ct Try.results18 _ _ w.heap.size _ _ _ _ (by rfl) (by rfl) (setRow_heap _ _ _ _ _ _ HW.out.1) Try.underlying62 rfl (by kernel_rfl)) rfl ⟨rfl, below_row HW.out.2.1 (Nat.le_refl _) _⟩
  | some m =>
    obtain ⟨i, hi, -, -⟩ := atM_mem HX.out
    have HS : Hid (∀ j u, (enL m)[j]? = some u → W.cell? ((⟨m.b, 0, none⟩ : Addr).add j) = some u) := mb_en (HW.out.2.2.mem i m hi).1
    clear hi
    go_wp2_with (first
      | (go_at_call 39; refine (at_any q ms id W HW.out.2.2).mono ?_; rintro e w1 ⟨rfl, hw1⟩; rw [HX.out, hw1]; unfold ptr; simp only)
      | (refine step_ldat 62 _ rfl rfl ⟨m.b, 0, none⟩ (by rfl) (enL m) _ Try.underlying62 rfl (by kernel_rfl) HS.out ?_)
      | (refine step_stR (by rfl) _ _ rfl w.heap.size (enL m).toArray (by rfl) (by rfl) (enL zMb).toArray (by kernel_rfl) (by kernel_rfl) (by kernel_rfl) HW.out.1 ?_))
    rw [hQ.out]
    exact bodyPost_ret (v := .tuple #[.agg (enL m).toArray, .bool true]) (results_ct Try.results18 _ _ w.heap.size _ _ _ _ (by rfl) (by rfl) (setRow_heap _ _ _ _ _ _ HW.out.1) Try.underlying62 rfl (by kernel_rfl)) rfl ⟨rfl, below_row HW.out.2.1 (Nat.le_refl _) _⟩
/-- a packet's cells, as far as they are read -/
structure Pf (pk : List Value) (mode poll key : Int) : Prop where
  len : pk.length = 17
  mode : pk[2]? = some (.int .i64 mode)
  poll : pk[4]? = some (.int .i64 poll)
  key : pk[14]? = some (.int .i64 key)
/-- a configuration's cells, as far as they are read -/
structure Cf (cf : List Value) (av : Value) (ls mc : Bool) : Prop where
  len : cf.length = 15
  as0 : cf[0]? = some av
  lis : cf[8]? = some (.bool ls)
  man : cf[9]? = some (.bool mc)
def tdA (poll key frm kind : Int) : As := ⟨kind, frm, key, min (max poll 3) 10, 10, false, false, false, 0, false, 0, 0⟩
def fdA (a : As) (frm : Int) : As := ⟨9, frm, a.key, a.minp, a.maxp, false, true, false, 0, false, 0, 0⟩
def zAs : As := ⟨0, 0, 0, 0, 0, false, false, false, 0, false, 0, 0⟩
theorem run_mx (a b : Int) (u : World) : (Builtin.max_ #[3, 3] 3 #[.int .i64 a, .int .i64 b]).run Try.prog u = .ok (.int .i64 (max a b)) u := by
  simp [go_sem]; split <;> omega
theorem run_mn (a b : Int) (u : World) : (Builtin.min_ #[3, 3] 3 #[.int .i64 a, .int .i64 b]).run Try.prog u = .ok (.int .i64 (min a b)) u := by
  simp [go_sem]; split <;> omega
set_option maxHeartbeats 1000000 in
theorem toldBy_any (pk : List Value) (mode poll key frm kind : Int) (w : World) (hp : Pf pk mode poll key) : Calls Try.prog 41 #[.agg pk.toArray, .int .u32 frm, .int .i64 kind] w fun e w' => e = .returned (.agg (asL (tdA poll key frm kind)).toArray) ∧ Below w.heap.size w w' := by
  have HP : Hid (Pf pk mode poll key) := hp
  clear hp
  have mx := run_mx
  have mn := run_mn
  obtain ⟨A, hA⟩ : ∃ A, A = tdA poll key frm kind := ⟨_, rfl⟩
  have HA : Hid (asL A = asL (tdA poll key frm kind)) := by rw [hA]; rfl
  rw [← hA]
  clear hA
  go_enter Try.func41, Try.ntmps41
  refine post_hid fun Q hQ => ?_
  refine seq_hid fun R hR => ?_
  go_wp2_with fail
  refine world_hid fun W hW => ?_
  have HW : Hid (Bk w.heap.size W pk.toArray 47 ∧ Bk (w.heap.size + 1) W (asL zAs).toArray 41 ∧ Below w.heap.size w W) := by
    rw [hW.out]
    have h1 : Bk w.heap.size (w.alloc (.cells pk.toArray 47)) pk.toArray 47 := Bk.new _ _ _
    have b1 := below_alloc (Below.refl w.heap.size w) (.cells pk.toArray 47)
    have b2 := below_alloc (Below.refl (w.alloc (.cells pk.toArray 47)).heap.size (w.alloc (.cells pk.toArray 47))) (.cells (asL zAs).toArray 41)
    refine ⟨h1.kept (b2.block _ h1.lt), ?_, below_thru b1 b2⟩
    have h3 := Bk.new (w.alloc (.cells pk.toArray 47)) (asL zAs).toArray 41
    rw [size_alloc1] at h3
    exact h3
  clear hW
  rw [hR.out]
  clear hR
  have c4 : W.cell? ⟨w.heap.size, 4, none⟩ = some (.int .i64 poll) := by rw [HW.out.1.cell 4, List.getElem?_toArray]; exact HP.out.poll
  have c14 : W.cell? ⟨w.heap.size, 14, none⟩ = some (.int .i64 key) := by rw [HW.out.1.cell 14, List.getElem?_toArray]; exact HP.out.key
  go_wp2_with (refine step_stR (by rfl) _ _ rfl (w.heap.size + 1) (asL A).toArray (by rfl) (by rw [HA.out]; rfl) (asL zAs).toArray (by kernel_rfl) (by kernel_rfl) (by kernel_rfl) HW.out.2.1 ?_)
  rw [hQ.out]
  exact bodyPost_ret (v := .agg (asL A).toArray) (results_cell_row Try.results41 _ _ (w.heap.size + 1) _ _ (0, 0) _ (by rfl) (setRow_heap _ _ _ _ _ _ HW.out.2.1) Try.underlying41 rfl (by kernel_rfl)) rfl ⟨rfl, below_row HW.out.2.2 (Nat.le_succ _) _⟩
set_option maxHeartbeats 1000000 in
theorem foundBy_any (a : As) (frm : Int) (w : World) : Calls Try.prog 43 #[.agg (asL a).toArray, .int .u32 frm] w fun e w' => e = .returned (.agg (asL (fdA a frm)).toArray) ∧ Below w.heap.size w w' := by
  obtain ⟨A, hA⟩ : ∃ A, A = fdA a frm := ⟨_, rfl⟩
  have HA : Hid (asL A = asL (fdA a frm)) := by rw [hA]; rfl
  rw [← hA]
  clear hA
  go_enter Try.func43, Try.ntmps43
  refine post_hid fun Q hQ => ?_
  refine seq_hid fun R hR => ?_
  go_wp2_with fail
  refine world_hid fun W hW => ?_
  have HW : Hid (Bk w.heap.size W (asL a).toArray 41 ∧ Bk (w.heap.size + 1) W (asL zAs).toArray 41 ∧ Below w.heap.size w W) := by
    rw [hW.out]
    have h1 : Bk w.heap.size (w.alloc (.cells (asL a).toArray 41)) (asL a).toArray 41 := Bk.new _ _ _
    have b1 := below_alloc (Below.refl w.heap.size w) (.cells (asL a).toArray 41)
    have b2 := below_alloc (Below.refl (w.alloc (.cells (asL a).toArray 41)).heap.size (w.alloc (.cells (asL a).toArray 41))) (.cells (asL zAs).toArray 41)
    refine ⟨h1.kept (b2.block _ h1.lt), ?_, below_thru b1 b2⟩
    have h3 := Bk.new (w.alloc (.cells (asL a).toArray 41)) (asL zAs).toArray 41
    rw [size_alloc1] at h3
    exact h3
  clear hW
  rw [hR.out]
  clear hR
  have c2 : W.cell? ⟨w.heap.size, 2, none⟩ = some (.int .i64 a.key) := HW.out.1.cell 2
  have c3 : W.cell? ⟨w.heap.size, 3, none⟩ = some (.int .i64 a.minp) := HW.out.1.cell 3
  have c4 : W.cell? ⟨w.heap.size, 4, none⟩ = some (.int .i64 a.maxp) := HW.out.1.cell 4
  go_wp2_with (refine step_stR (by rfl) _ _ rfl (w.heap.size + 1) (asL A).toArray (by rfl) (by rw [HA.out]; rfl) (asL zAs).toArray (by kernel_rfl) (by kernel_rfl) (by kernel_rfl) HW.out.2.1 ?_)
  rw [hQ.out]
  exact bodyPost_ret (v := .agg (asL A).toArray) (results_cell_row Try.results43 _ _ (w.heap.size + 1) _ _ (0, 0) _ (by rfl) (setRow_heap _ _ _ _ _ _ HW.out.2.1) Try.underlying41 rfl (by kernel_rfl)) rfl ⟨rfl, below_row HW.out.2.2 (Nat.le_succ _) _⟩
/-- what becomes of a request -/
def anI (mc : Bool) (frm to nos : Int) : Int := if nos ≠ 0 then 0 else if sgB frm = false then 0 else if mnB to = false then 1 else if mc = true then 6 else 0
set_option maxHeartbeats 1000000 in
theorem answers_any (cf : List Value) (av : Value) (ls mc : Bool) (frm to flags : Int) (w : World) (hp : Cf cf av ls mc) : Calls Try.prog 45 #[.agg cf.toArray, .int .u32 frm, .int .u32 to, .int .i64 flags] w fun e w' => e = .returned (.int .i64 (anI mc frm to (bits .and .i64 flags 1))) ∧ Below w.heap.size w w' := by
  have HP : Hid (Cf cf av ls mc) := hp
  clear hp
  obtain ⟨N, hN⟩ : ∃ N, bits .and .i64 flags 1 = N := ⟨_, rfl⟩
  rw [hN]
  obtain ⟨S, hS⟩ : ∃ S, sgB frm = S := ⟨_, rfl⟩
  obtain ⟨M, hM⟩ : ∃ M, mnB to = M := ⟨_, rfl⟩
  have CS : Hid (∀ u, Calls Try.prog 46 #[.int .u32 frm] u fun e w' => e = .returned (.bool S) ∧ w' = u) := fun u => by rw [← hS]; exact isSingle_any frm u
  have CM : Hid (∀ u, Calls Try.prog 56 #[.int .u32 to] u fun e w' => e = .returned (.bool M) ∧ w' = u) := fun u => by rw [← hM]; exact isMany_any to u
  unfold anI
  rw [hS, hM]
  clear hS hM
  go_enter Try.func45, Try.ntmps45
  refine post_hid fun Q hQ => ?_
  refine seq_hid fun R hR => ?_
  go_wp2_with fail
  refine world_hid fun W hW => ?_
  have HW : Hid (Bk w.heap.size W cf.toArray 29 ∧ Below w.heap.size w W) := by
    rw [hW.out]
    exact ⟨Bk.new _ _ _, below_alloc (Below.refl _ _) _⟩
  clear hW
  rw [hR.out]
  clear hR
  have c9 : W.cell? ⟨w.heap.size, 9, none⟩ = some (.bool mc) := by rw [HW.out.1.cell 9, List.getElem?_toArray]; exact HP.out.man
  by_cases h1 : N = 0
  · subst h1
    cases S <;> cases M <;> cases mc
    all_goals
      go_wp2_with (first
        | (go_at_call 46; refine (CS.out _).mono ?_; rintro e w1 ⟨rfl, hw1⟩; rw [hw1]; clear hw1)
        | (go_at_call 56; refine (CM.out _).mono ?_; rintro e w2 ⟨rfl, hw2⟩; rw [hw2]; clear hw2))
      rw [hQ.out]
      go_ret
      exact ⟨rfl, HW.out.2⟩
  · have h2 : (N == 0) = false := by simpa using h1
    have h3 : (N != 0) = true := by simpa using h1
    go_wp2_with fail
    rw [hQ.out]
    go_ret
    exact ⟨ret_int' (by rw [if_pos h1]), HW.out.2⟩
/-- may one be mobilised -/
def mmB (ms : List (Option Mb)) (auth : Bool) (npe ntr : Int) : Bool := (auth || decide (ntr = 0)) && decide (npe = 0) && decide (frF ms 0 ≠ 0)
set_option maxHeartbeats 1000000 in
theorem mayMobilise_any (q : Nat) (ms : List (Option Mb)) (flags : Int) (auth : Bool) (w : World) (h : Tb w q ms) : Calls Try.prog 44 #[.pointer (some ⟨q, 0, none⟩), .int .i64 flags, .bool auth] w fun e w' => e = .returned (.bool (mmB ms auth (bits .and .i64 flags 8) (bits .and .i64 flags 16))) ∧ w' = w := by
  have HT : Hid (Tb w q ms) := h
  clear h
  obtain ⟨N, hN⟩ : ∃ N, bits .and .i64 flags 8 = N := ⟨_, rfl⟩
  obtain ⟨T, hT⟩ : ∃ T, bits .and .i64 flags 16 = T := ⟨_, rfl⟩
  obtain ⟨F, hF⟩ : ∃ F, frF ms 0 = F := ⟨_, rfl⟩
  have CF : Hid (Calls Try.prog 38 #[.pointer (some ⟨q, 0, none⟩)] w fun e w' => e = .returned (.int .i64 F) ∧ w' = w) := by rw [← hF]; exact free_any q ms w HT.out
  unfold mmB
  rw [hN, hT, hF]
  clear hF
  go_enter Try.func44, Try.ntmps44
  by_cases h1 : T = 0
  · subst h1
    by_cases h2 : N = 0
    · subst h2
      cases auth
      all_goals
        go_wp2_with (go_at_call 38; refine CF.out.mono ?_; rintro e w1 ⟨rfl, hw1⟩; rw [hw1]; clear hw1)
        go_ret
        exact ⟨ret_bool' (by rw [Bool.eq_iff_iff]; simp), rfl⟩
    · have h4 : (N == 0) = false := by simpa using h2
      cases auth
      all_goals
        go_wp2_with fail
        go_ret
        exact ⟨ret_bool' (by first | rfl | (simp; done) | simp [h2]), rfl⟩
  · have h3 : (T == 0) = false := by simpa using h1
    by_cases h2 : N = 0
    · subst h2
      cases auth
      all_goals
        go_wp2_with (go_at_call 38; refine CF.out.mono ?_; rintro e w1 ⟨rfl, hw1⟩; rw [hw1]; clear hw1)
        go_ret
        exact ⟨ret_bool' (by first | (rw [Bool.eq_iff_iff]; done) | (rw [Bool.eq_iff_iff]; simp; done) | (rw [Bool.eq_iff_iff]; simp [h1])), rfl⟩
    · have h4 : (N == 0) = false := by simpa using h2
      cases auth
      all_goals
        go_wp2_with fail
        go_ret
        exact ⟨ret_bool' (by first | rfl | (simp; done) | (simp [h1]; done) | (simp [h2]; done) | simp [h1, h2]), rfl⟩
end Go.Proofs.Ytnjdmkgkpdebdaa
